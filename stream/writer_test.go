package stream_test

import (
	"bytes"
	"math"
	"strings"
	"testing"

	"spandrel/api"
	"spandrel/stream"
)

// digits is octets as a text of binary digits.
func digits(b []byte) string {
	var s strings.Builder
	for _, o := range b {
		s.WriteString(number(uint64(o), 8))
	}
	return s.String()
}

// number is the width lowest binary digits of v.
func number(v uint64, width int) string {
	s := ""
	for range width {
		s = string(rune('0'+v%2)) + s
		v /= 2
	}
	return s
}

// checkBits holds the bits of a Writer, and their padding, against digits.
func checkBits(t *testing.T, w *stream.Writer, want string) {
	t.Helper()
	if w.Len() != len(want) {
		t.Fatalf("Len is %d, not %d", w.Len(), len(want))
	}
	padded := want + strings.Repeat("0", (8-len(want)%8)%8)
	if want == "" {
		padded = "00000000"
	}
	if got := digits(w.Bytes()); got != padded {
		t.Fatalf("bits are %s, not %s", got, padded)
	}
}

// P1.1: Put takes each width, with the least and the greatest numbers, at each
// place in an octet.
func TestPutWidths(t *testing.T) {
	for before := range 9 {
		for width := range 65 {
			top := uint64(math.MaxUint64)
			if width < 64 {
				top = 1<<width - 1
			}
			for _, v := range []uint64{0, top, top / 2, top / 3, top - top/3} {
				w := &stream.Writer{}
				w.Put(1<<before-1, before)
				if e := w.Put(v, width); e != api.OK {
					t.Fatal(v, width, e)
				}
				checkBits(t, w, strings.Repeat("1", before)+number(v, width))
			}
		}
	}
}

// P1.1: wrong numbers and widths leave the Writer as it was.
func TestPutWrong(t *testing.T) {
	for _, x := range []struct {
		v     uint64
		width int
	}{
		{0, -1}, {0, math.MinInt}, {0, 65}, {0, 128}, {0, math.MaxInt}, {1, -1}, {1, 65}, {math.MaxUint64, -64},
		{1, 0}, {2, 1}, {4, 2}, {8, 3}, {256, 8}, {1 << 32, 32}, {1 << 63, 63}, {math.MaxUint64, 63}, {math.MaxUint64, 0},
	} {
		for before := range 9 {
			w := &stream.Writer{}
			w.Put(1<<before-1, before)
			if e := w.Put(x.v, x.width); e != api.ErrArg {
				t.Fatal(x, e)
			}
			checkBits(t, w, strings.Repeat("1", before))
			w.Put(1, 1)
			checkBits(t, w, strings.Repeat("1", before+1))
		}
	}
}

// P1.1: Align appends the fewest zeros, and none if it is aligned already.
func TestWriterAlign(t *testing.T) {
	for _, octets := range []int{0, 1, 62, 63, 64, 65, 127, 128, 200} {
		for before := range 9 {
			w := &stream.Writer{}
			w.Octets(bytes.Repeat([]byte{255}, octets))
			w.Put(1<<before-1, before)
			want := strings.Repeat("1", 8*octets+before) + strings.Repeat("0", (8-before%8)%8)
			for range 2 {
				w.Align()
				checkBits(t, w, want)
			}
			w.Put(1, 1)
			checkBits(t, w, want+"1")
		}
	}
}

// P1.1: Octets appends all octets where the Writer stands, without aligning.
func TestWriterOctets(t *testing.T) {
	for _, size := range []int{0, 1, 2, 63, 64, 65, 127, 128, 129, 1000} {
		b := make([]byte, size)
		for i := range b {
			b[i] = byte(i*37 + 129)
		}
		for before := range 8 {
			w := &stream.Writer{}
			w.Put(1<<before-1, before)
			if e := w.Octets(b); e != api.OK {
				t.Fatal(e)
			}
			want := strings.Repeat("1", before) + digits(b)
			checkBits(t, w, want)
			w.Put(5, 3)
			checkBits(t, w, want+"101")
		}
	}
	w := &stream.Writer{}
	if e := w.Octets(nil); e != api.OK || w.Len() != 0 {
		t.Fatal(e, w.Len())
	}
}

// P1.2: without bits there is one zero octet; bits are padded with zeros.
func TestBytes(t *testing.T) {
	w := &stream.Writer{}
	checkBits(t, w, "")
	w.Put(0, 0)
	w.Align()
	w.Octets([]byte{})
	checkBits(t, w, "")
	w.Put(5, 3)
	w.Align()
	w.Put(1, 2)
	if w.Len() != 10 || !bytes.Equal(w.Bytes(), []byte{160, 64}) {
		t.Fatal(w.Len(), w.Bytes())
	}
	want := digits([]byte{160}) + "01"
	for i := range 1500 {
		w.Put(uint64(i%3%2), 1)
		want += string(rune('0' + i%3%2))
		checkBits(t, w, want)
	}
}

// P1.1, P1.2: a nil Writer.
func TestNilWriter(t *testing.T) {
	var w *stream.Writer
	for _, width := range []int{math.MinInt, -1, 0, 1, 64, 65} {
		if e := w.Put(0, width); e != api.ErrArg {
			t.Error(width, e)
		}
	}
	for _, b := range [][]byte{nil, {}, {1}} {
		if e := w.Octets(b); e != api.ErrArg {
			t.Error(b, e)
		}
	}
	w.Align()
	if b := w.Bytes(); w.Len() != 0 || !bytes.Equal(b, []byte{0}) {
		t.Error(w.Len(), b)
	}
}

// R3: a Writer keeps no octets that it was given, changes none, and hands out
// none of its own.
func TestWriterShares(t *testing.T) {
	w := &stream.Writer{}
	b := []byte{1, 2, 3, 99}
	w.Octets(b[:3])
	if !bytes.Equal(b, []byte{1, 2, 3, 99}) {
		t.Fatal(b)
	}
	b[0] = 77
	w.Bytes()[1] = 88
	checkBits(t, w, digits([]byte{1, 2, 3}))
	w.Bytes()[2] = 255
	w.Octets([]byte{4})
	checkBits(t, w, digits([]byte{1, 2, 3, 4}))
	var none *stream.Writer
	none.Bytes()[0] = 9
	new(stream.Writer).Bytes()[0] = 9
	checkBits(t, &stream.Writer{}, "")
	if b := none.Bytes(); !bytes.Equal(b, []byte{0}) {
		t.Fatal(b)
	}
}

// A Writer that is copied, and its copy, do not touch each other's bits.
func TestWriterCopied(t *testing.T) {
	for _, before := range []int{0, 3, 8, 500, 511, 512, 513, 1030} {
		w := stream.Writer{}
		want := strings.Repeat("10", before)[:before]
		for i := range before {
			w.Put(uint64(1-i%2), 1)
		}
		c := w
		c.Octets(bytes.Repeat([]byte{170}, 100))
		checkBits(t, &w, want)
		w.Octets(bytes.Repeat([]byte{85}, 100))
		checkBits(t, &c, want+strings.Repeat("10101010", 100))
		checkBits(t, &w, want+strings.Repeat("01010101", 100))
	}
}
