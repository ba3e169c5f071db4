package length

import (
	"math"

	"spandrel/api"
	"spandrel/octets"
	"spandrel/stream"
)

const (
	smallWidth = 6
	// Numbers from here on have a length.
	largeFrom = 1 << smallWidth
)

// PutSmall writes a number that is small as a rule.
func PutSmall(w *stream.Writer, aligned bool, n int) api.Errno {
	if w == nil || n < 0 {
		return api.ErrArg
	}
	if n < largeFrom {
		// The bit 0 ahead of the number is the first of one bit more.
		return w.Put(uint64(n), 1+smallWidth)
	}
	if e := w.Put(1, 1); e != api.OK {
		return e
	}
	return putLarge(w, aligned, uint64(n))
}

// GetSmall reads what PutSmall writes.
func GetSmall(r *stream.Reader, aligned bool) (int, api.Errno) {
	if r == nil {
		return 0, api.ErrArg
	}
	large, e := r.Get(1)
	if e != api.OK {
		return 0, e
	}
	if large == 1 {
		return getLarge(r, aligned)
	}
	v, e := r.Get(smallWidth)
	return int(v), e
}

// putLarge writes how many octets a number needs, and these.
func putLarge(w *stream.Writer, aligned bool, v uint64) api.Errno {
	if _, _, e := Put(w, aligned, octets.Count(v), 0, -1); e != api.OK {
		return e
	}
	return w.Octets(octets.Unsigned(v))
}

// getLarge reads what putLarge writes.
func getLarge(r *stream.Reader, aligned bool) (int, api.Errno) {
	v, e := getOctets(r, aligned)
	if e != api.OK {
		return 0, e
	}
	if v < largeFrom {
		return 0, api.ErrForm
	}
	if v > math.MaxInt {
		return 0, api.ErrLarge
	}
	return int(v), api.OK
}

// getOctets reads a number of octets, and the integer in so many.
func getOctets(r *stream.Reader, aligned bool) (uint64, api.Errno) {
	count, more, e := Get(r, aligned, 0, -1)
	if e != api.OK {
		return 0, e
	}
	if more {
		return 0, api.ErrForm
	}
	b, e := r.Octets(count)
	if e != api.OK {
		return 0, e
	}
	return octets.FromUnsigned(b)
}
