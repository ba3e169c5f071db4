package stream_test

import (
	"bytes"
	"math"
	"strings"
	"testing"

	"spandrel/api"
	"spandrel/stream"
)

// sample is octets whose bits are in no simple order.
func sample(size int) []byte {
	b := make([]byte, size)
	for i := range b {
		b[i] = byte(i*i*73 + i*151 + 197)
	}
	return b
}

// at is a Reader that has read bits already.
func at(t *testing.T, b []byte, bits int) *stream.Reader {
	t.Helper()
	r := stream.New(b)
	for range bits {
		if _, e := r.Get(1); e != api.OK {
			t.Fatal(e)
		}
	}
	if r.Pos() != bits {
		t.Fatal(r.Pos(), bits)
	}
	return r
}

// P1.3: Get reads each width at each place, and refuses what is not there.
func TestGet(t *testing.T) {
	b := sample(11)
	all := digits(b)
	for before := range len(all) + 1 {
		for width := range 65 {
			r := at(t, b, before)
			v, e := r.Get(width)
			if before+width > len(all) {
				if v != 0 || e != api.ErrShort || r.Pos() != before {
					t.Fatal(before, width, v, e, r.Pos())
				}
				continue
			}
			if e != api.OK || number(v, 64) != strings.Repeat("0", 64-width)+all[before:before+width] || r.Pos() != before+width {
				t.Fatal(before, width, v, e, r.Pos())
			}
		}
	}
}

// P1.3: a width that is wrong is ErrArg, be there bits left or none.
func TestGetWrong(t *testing.T) {
	for _, b := range [][]byte{nil, {255}, sample(20)} {
		for _, width := range []int{math.MinInt, -64, -1, 65, 66, 128, math.MaxInt} {
			r := stream.New(b)
			if v, e := r.Get(width); v != 0 || e != api.ErrArg || r.Pos() != 0 {
				t.Fatal(len(b), width, v, e, r.Pos())
			}
		}
	}
	r := stream.New(nil)
	if v, e := r.Get(0); v != 0 || e != api.OK {
		t.Fatal(v, e)
	}
	if v, e := r.Get(1); v != 0 || e != api.ErrShort {
		t.Fatal(v, e)
	}
}

// P1.3: Align reads zeros up to the octet's end, and nothing if one is not 0.
func TestReaderAlign(t *testing.T) {
	for o := range 256 {
		for before := range 17 {
			b := []byte{255, byte(o)}
			r := at(t, b, before)
			want, end := api.OK, (before+7)/8*8
			if strings.Contains(digits(b)[before:end], "1") {
				want, end = api.ErrForm, before
			}
			if e := r.Align(); e != want || r.Pos() != end {
				t.Fatal(o, before, e, r.Pos())
			}
		}
	}
	if e := stream.New(nil).Align(); e != api.OK {
		t.Fatal(e)
	}
}

// P1.3: Octets reads where the Reader stands, and refuses what is not there.
func TestReaderOctets(t *testing.T) {
	b := sample(9)
	all := digits(b)
	for before := range len(all) + 1 {
		for n := range 11 {
			r := at(t, b, before)
			got, e := r.Octets(n)
			if before+8*n > len(all) {
				if got != nil || e != api.ErrShort || r.Pos() != before {
					t.Fatal(before, n, got, e, r.Pos())
				}
				continue
			}
			if e != api.OK || digits(got) != all[before:before+8*n] || r.Pos() != before+8*n {
				t.Fatal(before, n, got, e, r.Pos())
			}
		}
	}
}

// P1.3: numbers of octets that are below 0, or whose bits no int can count.
func TestReaderOctetsWrong(t *testing.T) {
	for _, x := range []struct {
		n int
		e api.Errno
	}{
		{-1, api.ErrArg}, {-8, api.ErrArg}, {math.MinInt, api.ErrArg}, {math.MinInt / 8, api.ErrArg},
		{4, api.ErrShort}, {math.MaxInt, api.ErrShort}, {math.MaxInt / 8, api.ErrShort},
		{math.MaxInt/8 + 1, api.ErrShort}, {math.MaxInt/4 + 1, api.ErrShort}, {1 << 61, api.ErrShort},
	} {
		r := at(t, []byte{1, 2, 3}, 3)
		if b, e := r.Octets(x.n); b != nil || e != x.e || r.Pos() != 3 {
			t.Fatal(x, b, e, r.Pos())
		}
	}
}

// P1.3, P1.4: a nil Reader.
func TestNilReader(t *testing.T) {
	var r *stream.Reader
	for _, n := range []int{math.MinInt, -1, 0, 1, 64, 65, math.MaxInt} {
		if v, e := r.Get(n); v != 0 || e != api.ErrArg {
			t.Error(n, v, e)
		}
		if b, e := r.Octets(n); b != nil || e != api.ErrArg {
			t.Error(n, b, e)
		}
	}
	if r.Align() != api.ErrArg || r.End() != api.ErrArg || r.Pos() != 0 {
		t.Error(r.Align(), r.End(), r.Pos())
	}
}

// A Reader that New did not make has no bits.
func TestZeroReader(t *testing.T) {
	r := &stream.Reader{}
	if v, e := r.Get(1); v != 0 || e != api.ErrShort {
		t.Error(v, e)
	}
	if r.Align() != api.OK || r.End() != api.ErrForm || r.Pos() != 0 {
		t.Error(r.Align(), r.End(), r.Pos())
	}
}

// P1.4: End asks for fewer than eight bits, all 0, after at least one bit.
func TestEnd(t *testing.T) {
	for _, b := range [][]byte{nil, {}, {0}, {1}, {128}, {254}, {255}, {0, 0}, {0, 1}, {255, 0}, {0, 128}, {8, 16}, {0, 0, 0}} {
		all := digits(b)
		for before := range len(all) + 1 {
			rest := all[before:]
			want := api.ErrForm
			if before > 0 && len(rest) < 8 && !strings.Contains(rest, "1") || before == 0 && rest == "00000000" {
				want = api.OK
			}
			r := at(t, b, before)
			for range 2 {
				if e := r.End(); e != want || r.Pos() != before {
					t.Fatal(b, before, e, want, r.Pos())
				}
			}
		}
	}
}

// P1.4: calls that read nothing do not count as bits that were read.
func TestEndNothingRead(t *testing.T) {
	for _, x := range []struct {
		b []byte
		e api.Errno
	}{{nil, api.ErrForm}, {[]byte{0}, api.OK}, {[]byte{1}, api.ErrForm}, {[]byte{0, 0}, api.ErrForm}} {
		r := stream.New(x.b)
		r.Get(0)
		r.Align()
		r.Octets(0)
		r.Get(65)
		r.Octets(3)
		if e := r.End(); e != x.e || r.Pos() != 0 {
			t.Fatal(x, e, r.Pos())
		}
	}
}

// R3: a Reader keeps no octets that it was given, changes none, and hands out
// none of its own.
func TestReaderShares(t *testing.T) {
	b := []byte{1, 2, 3}
	r := stream.New(b)
	b[0], b[2] = 9, 9
	got, e := r.Octets(2)
	if e != api.OK || !bytes.Equal(got, []byte{1, 2}) {
		t.Fatal(got, e)
	}
	got = append(got, 77)
	if v, e := r.Get(8); v != 3 || e != api.OK || !bytes.Equal(b, []byte{9, 2, 9}) {
		t.Fatal(v, e, b, got)
	}
}

// A Reader that is copied, and its copy, read independently.
func TestReaderCopied(t *testing.T) {
	r := stream.New([]byte{160, 127})
	c := *r
	r.Get(3)
	if v, e := c.Get(16); v != 160<<8|127 || e != api.OK || r.Pos() != 3 || c.Pos() != 16 {
		t.Fatal(v, e, r.Pos(), c.Pos())
	}
}
