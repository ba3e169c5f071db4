package stream

import "spandrel/api"

const (
	chunkOctets = 64
	chunkBits   = 8 * chunkOctets
)

// chunk is octets that are complete. It is never changed, so that copies of a
// Writer can share it and still go on independently of each other.
type chunk struct {
	before *chunk
	octets [chunkOctets]byte
}

// Writer holds the bits that were written to it; its zero value holds none.
type Writer struct {
	full *chunk
	last [chunkOctets]byte
	bits int
}

// Put appends the width lowest bits of v, the most significant one first.
func (w *Writer) Put(v uint64, width int) api.Errno {
	if w == nil || !isWidth(width) || v>>width != 0 {
		return api.ErrArg
	}
	for i := range width {
		bit := byte(v>>(width-1-i)) & 1
		w.add(bit<<(7-w.bits%8), 1)
	}
	return api.OK
}

// Align appends zero bits up to the next multiple of 8.
func (w *Writer) Align() {
	if w != nil {
		w.add(0, gap(w.bits))
	}
}

// Octets appends all bits of b, at the current position.
func (w *Writer) Octets(b []byte) api.Errno {
	if w == nil {
		return api.ErrArg
	}
	used := w.bits % 8
	for _, o := range b {
		w.add(o>>used, 8-used)
		w.add(o<<(8-used), used)
	}
	return api.OK
}

// Len is the number of bits.
func (w *Writer) Len() int {
	if w == nil {
		return 0
	}
	return w.bits
}

// Bytes returns all bits, padded with zero bits to octets, of which there is
// at least one.
func (w *Writer) Bytes() []byte {
	if w == nil || w.bits == 0 {
		return []byte{0}
	}
	b := make([]byte, (w.bits+7)/8)
	at := w.bits / chunkBits * chunkOctets
	copy(b[at:], w.last[:])
	for c := w.full; c != nil; c = c.before {
		at -= chunkOctets
		copy(b[at:], c.octets[:])
	}
	return b
}

// add appends count bits, which must fit into the octet that is begun: part is
// this octet with the new bits in their places and zeros elsewhere.
func (w *Writer) add(part byte, count int) {
	if count == 0 {
		return
	}
	w.last[w.bits%chunkBits/8] |= part
	w.bits += count
	if w.bits%chunkBits == 0 {
		w.full = &chunk{before: w.full, octets: w.last}
		w.last = [chunkOctets]byte{}
	}
}
