package stream_test

import (
	"bytes"
	"math/rand"
	"testing"

	"spandrel/api"
	"spandrel/stream"
)

// call is one of a Writer's, and the Reader's that corresponds to it.
type call struct {
	kind  int
	v     uint64
	width int
	b     []byte
}

const (
	put = iota
	align
	octets
	kinds
)

// anyCall makes a call of a random kind.
func anyCall(from *rand.Rand) call {
	c := call{kind: from.Intn(kinds)}
	switch c.kind {
	case put:
		c.width = from.Intn(65)
		c.v = from.Uint64() >> (64 - c.width)
	case octets:
		c.b = make([]byte, from.Intn(4)*from.Intn(50))
		from.Read(c.b)
	}
	return c
}

// write makes the call, which must succeed.
func (c call) write(t *testing.T, w *stream.Writer) {
	e := api.OK
	switch c.kind {
	case put:
		e = w.Put(c.v, c.width)
	case align:
		w.Align()
	case octets:
		e = w.Octets(c.b)
	}
	if e != api.OK {
		t.Fatal(c, e)
	}
}

// read makes the corresponding call, which must give back what was written.
func (c call) read(t *testing.T, r *stream.Reader) {
	e, same := api.OK, true
	switch c.kind {
	case put:
		var v uint64
		v, e = r.Get(c.width)
		same = v == c.v
	case align:
		e = r.Align()
	case octets:
		var b []byte
		b, e = r.Octets(len(c.b))
		same = bytes.Equal(b, c.b)
	}
	if e != api.OK || !same {
		t.Fatal(c, e, r.Pos())
	}
}

// roundTrip writes by all calls, reads by all calls, and then is at the end.
func roundTrip(t *testing.T, calls []call) {
	t.Helper()
	w := &stream.Writer{}
	for _, c := range calls {
		c.write(t, w)
	}
	r := stream.New(w.Bytes())
	for _, c := range calls {
		c.read(t, r)
	}
	if e := r.End(); e != api.OK || r.Pos() != w.Len() {
		t.Fatal(calls, e, r.Pos(), w.Len())
	}
}

// P1.5: what was written is read, and then nothing is left.
func TestRoundTrip(t *testing.T) {
	from := rand.New(rand.NewSource(1))
	for range 3000 {
		var calls []call
		for range from.Intn(30) {
			calls = append(calls, anyCall(from))
		}
		roundTrip(t, calls)
	}
}

// P1.5: also where nothing was written, or nothing but calls without bits.
func TestRoundTripEmpty(t *testing.T) {
	for _, calls := range [][]call{nil, {{kind: put}}, {{kind: align}}, {{kind: octets}}, {{kind: align}, {kind: put}, {kind: octets}}} {
		roundTrip(t, calls)
	}
}

// P1: whatever octets and arguments there are, each call ends without a panic,
// answers zero beside an error, and reads nothing beyond the octets.
func FuzzReader(f *testing.F) {
	f.Add([]byte{}, []byte{0, 1, 2, 3})
	f.Add([]byte{0}, []byte{3, 0, 255})
	f.Add([]byte{160, 64}, []byte{12, 1, 8, 3})
	f.Add([]byte{1, 2, 3, 4, 5, 6, 7, 8, 9}, []byte{4, 255, 1, 6, 3, 250, 2, 200, 9, 41})
	f.Fuzz(func(t *testing.T, b, script []byte) {
		r := stream.New(b)
		for _, c := range script {
			before, n := r.Pos(), int(int8(c))/4
			var e api.Errno
			zero, moved := true, 0
			switch c % 4 {
			case 0:
				var v uint64
				v, e = r.Get(n * 3)
				zero, moved = v == 0, n*3
			case 1:
				e = r.Align()
				moved = (before+7)/8*8 - before
			case 2:
				var got []byte
				got, e = r.Octets(n)
				zero, moved = got == nil, 8*n
			case 3:
				e = r.End()
			}
			if e != api.OK && (!zero || r.Pos() != before) || e == api.OK && r.Pos() != before+moved || r.Pos() > 8*len(b) {
				t.Fatal(b, c, n, e, before, r.Pos())
			}
		}
	})
}
