package stream

import (
	"slices"

	"spandrel/api"
)

// Reader reads the bits of octets, one after another.
type Reader struct {
	octets []byte
	pos    int
}

// New returns a Reader at the first bit of b.
func New(b []byte) *Reader {
	return &Reader{octets: slices.Clone(b)}
}

// Get reads width bits as an integer, the most significant one first.
func (r *Reader) Get(width int) (uint64, api.Errno) {
	if r == nil || !isWidth(width) {
		return 0, api.ErrArg
	}
	if width > r.left() {
		return 0, api.ErrShort
	}
	var v uint64
	for i := range width {
		v = v<<1 | uint64(r.bit(i))
	}
	r.pos += width
	return v, api.OK
}

// Align reads the bits up to the next multiple of 8, which must be 0.
func (r *Reader) Align() api.Errno {
	if r == nil {
		return api.ErrArg
	}
	n := gap(r.pos)
	if !r.zeros(n) {
		return api.ErrForm
	}
	r.pos += n
	return api.OK
}

// Octets reads n octets from the current position, be it aligned or not.
func (r *Reader) Octets(n int) ([]byte, api.Errno) {
	if r == nil || n < 0 {
		return nil, api.ErrArg
	}
	// n is not multiplied by 8, since that may overflow.
	if n > r.left()/8 {
		return nil, api.ErrShort
	}
	b := make([]byte, n)
	for i := range b {
		b[i] = r.octet()
	}
	return b, api.OK
}

// Pos is the number of bits that were read.
func (r *Reader) Pos() int {
	if r == nil {
		return 0
	}
	return r.pos
}

// End tells whether nothing is left but the padding of the last octet.
func (r *Reader) End() api.Errno {
	if r == nil {
		return api.ErrArg
	}
	// Without any bits, there is still the one octet that a Writer returns.
	most := 7
	if r.pos == 0 {
		most = 8
	}
	if len(r.octets) == 0 || r.left() > most || !r.zeros(r.left()) {
		return api.ErrForm
	}
	return api.OK
}

// left is the number of bits that were not read yet.
func (r *Reader) left() int {
	return 8*len(r.octets) - r.pos
}

// bit is the bit that is i bits ahead of the current position.
func (r *Reader) bit(i int) byte {
	at := r.pos + i
	return r.octets[at/8] >> (7 - at%8) & 1
}

// zeros tells whether the next n bits are all 0.
func (r *Reader) zeros(n int) bool {
	for i := range n {
		if r.bit(i) != 0 {
			return false
		}
	}
	return true
}

// octet reads eight bits, which must be there.
func (r *Reader) octet() byte {
	at, used := r.pos/8, r.pos%8
	o := r.octets[at] << used
	if used > 0 {
		o |= r.octets[at+1] >> (8 - used)
	}
	r.pos += 8
	return o
}
