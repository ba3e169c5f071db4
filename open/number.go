package open

import (
	"math"

	"spandrel/api"
	"spandrel/length"
	"spandrel/octets"
	"spandrel/stream"
)

// PutSemi writes an integer that is at least lo.
func PutSemi(w *stream.Writer, aligned bool, n, lo int) api.Errno {
	if w == nil {
		return api.ErrArg
	}
	if n < lo {
		return api.ErrConstraint
	}
	// The difference may be greater than any int.
	return putCounted(w, aligned, octets.Unsigned(uint64(n)-uint64(lo)))
}

// GetSemi reads an integer that is at least lo.
func GetSemi(r *stream.Reader, aligned bool, lo int) (int, api.Errno) {
	b, e := getCounted(r, aligned)
	if e != api.OK {
		return 0, e
	}
	v, e := octets.FromUnsigned(b)
	if e != api.OK {
		return 0, e
	}
	// The sum may be too great for 64 bits, what is above lo can't be.
	if v > math.MaxInt-uint64(lo) {
		return 0, api.ErrLarge
	}
	return int(uint64(lo) + v), api.OK
}

// PutAny writes an integer.
func PutAny(w *stream.Writer, aligned bool, n int) api.Errno {
	if w == nil {
		return api.ErrArg
	}
	return putCounted(w, aligned, octets.Signed(n))
}

// GetAny reads an integer.
func GetAny(r *stream.Reader, aligned bool) (int, api.Errno) {
	b, e := getCounted(r, aligned)
	if e != api.OK {
		return 0, e
	}
	return octets.FromSigned(b)
}

// putCounted writes how many octets an integer has, and these.
func putCounted(w *stream.Writer, aligned bool, b []byte) api.Errno {
	if _, _, e := length.Put(w, aligned, len(b), 0, -1); e != api.OK {
		return e
	}
	return w.Octets(b)
}

// getCounted reads what putCounted writes.
func getCounted(r *stream.Reader, aligned bool) ([]byte, api.Errno) {
	if r == nil {
		return nil, api.ErrArg
	}
	count, more, e := length.Get(r, aligned, 0, -1)
	if e != api.OK {
		return nil, e
	}
	if more {
		return nil, api.ErrForm
	}
	return r.Octets(count)
}
