package length_test

import (
	"math"
	"strings"
	"testing"

	"spandrel/api"
	"spandrel/length"
	"spandrel/stream"
)

// P4.1: what is written and returned for lengths about each edge, in bounds of
// each kind and outside them, in both variants, at each place in an octet.
func TestPut(t *testing.T) {
	for _, x := range validBounds() {
		for _, n := range append(lengths(), x.lo-1, x.lo, x.lo+1, x.hi-1, x.hi, x.hi+1) {
			for _, pos := range []int{0, 1, 5, 7, 8, 14} {
				for _, aligned := range both {
					checkPut(t, pos, aligned, n, x)
				}
			}
		}
	}
}

// P4.1: all lengths that have a form of their own, and the first ones that are
// cut into fragments.
func TestPutAll(t *testing.T) {
	for n := range 17000 {
		checkPut(t, n%9, n%2 == 0, n, bounds{0, -1})
	}
}

// row is a length, its bounds, and the digits of both variants behind the bits
// 111, spelled out by hand, with what is returned. A dash stands for the zeros
// of an Align.
type row struct {
	n, lo, hi           int
	unaligned, together string
	count               int
	more                bool
}

// rows is the chapter's examples, and its edges.
func rows() []row {
	o, z := strings.Repeat("1", 8), strings.Repeat("0", 8)
	return []row{
		// Without an upper bound.
		{5, 0, -1, "00000101", "-00000101", 5, false},
		{200, 0, -1, "1000000011001000", "-1000000011001000", 200, false},
		{70000, 0, -1, "11000100", "-11000100", 65536, true},
		{0, 0, -1, z, "-" + z, 0, false},
		{127, 0, -1, "01111111", "-01111111", 127, false},
		{128, 0, -1, "1000000010000000", "-1000000010000000", 128, false},
		{256, 0, -1, "1000000100000000", "-1000000100000000", 256, false},
		{16383, 0, -1, "10111111" + o, "-10111111" + o, 16383, false},
		{16384, 0, -1, "11000001", "-11000001", 16384, true},
		{32767, 0, -1, "11000001", "-11000001", 16384, true},
		{32768, 0, -1, "11000010", "-11000010", 32768, true},
		{49151, 0, -1, "11000010", "-11000010", 32768, true},
		{49152, 0, -1, "11000011", "-11000011", 49152, true},
		{65535, 0, -1, "11000011", "-11000011", 49152, true},
		{65536, 0, -1, "11000100", "-11000100", 65536, true},
		{81920, 0, -1, "11000100", "-11000100", 65536, true},
		{1 << 20, 0, -1, "11000100", "-11000100", 65536, true},
		{math.MaxInt, 0, -1, "11000100", "-11000100", 65536, true},
		{5, 5, math.MinInt, "00000101", "-00000101", 5, false},
		// An upper bound of 65535 is narrow.
		{5, 0, 65535, z + "00000101", "-" + z + "00000101", 5, false},
		{65535, 0, 65535, o + o, "-" + o + o, 65535, false},
		{16384, 0, 65535, "01000000" + z, "-01000000" + z, 16384, false},
		{7, 5, 65535, z + "00000010", "-" + z + "00000010", 7, false},
		{65535, 65535, 65535, "", "", 65535, false},
		// An upper bound of 65536 is not; the form does not hang on the bounds.
		{5, 0, 65536, "00000101", "-00000101", 5, false},
		{5, 5, 65536, "00000101", "-00000101", 5, false},
		{65535, 0, 65536, "11000011", "-11000011", 49152, true},
		{65536, 0, 65536, "11000100", "-11000100", 65536, true},
		{65536, 65536, 65536, "11000100", "-11000100", 65536, true},
		{70000, 65537, math.MaxInt, "11000100", "-11000100", 65536, true},
		// Narrow bounds.
		{0, 0, 0, "", "", 0, false},
		{3, 3, 3, "", "", 3, false},
		{5, 0, 7, "101", "101", 5, false},
		{200, 0, 254, "11001000", "11001000", 200, false},
		{200, 0, 255, "11001000", "-11001000", 200, false},
		{2, 1, 300, "000000001", "-" + z + "00000001", 2, false},
	}
}

// P4.1, P4.2: what is spelled out is what is written, and is read.
func TestRows(t *testing.T) {
	for _, x := range rows() {
		for _, aligned := range both {
			want := "111" + x.unaligned
			if aligned {
				want = "111" + strings.Replace(x.together, "-", "00000", 1)
			}
			w := writer(3)
			if n, more, e := length.Put(w, aligned, x.n, x.lo, x.hi); n != x.count || more != x.more || e != api.OK {
				t.Fatal(x, aligned, n, more, e)
			}
			checkHolds(t, w, want)
			r := at(packed(want), 3)
			if n, more, e := length.Get(r, aligned, x.lo, x.hi); n != x.count || more != x.more || e != api.OK || r.Pos() != len(want) {
				t.Fatal(x, aligned, n, more, e, r.Pos())
			}
		}
	}
}

// checkPutFault holds an error of Put, at some places in an octet, and that
// nothing was written, nor aligned.
func checkPutFault(t *testing.T, n int, x bounds, want api.Errno) {
	t.Helper()
	for _, pos := range []int{0, 1, 3, 8, 15} {
		for _, aligned := range both {
			w := writer(pos)
			if count, more, e := length.Put(w, aligned, n, x.lo, x.hi); count != 0 || more || e != want {
				t.Fatal(n, x, pos, aligned, count, more, e, want)
			}
			checkHolds(t, w, strings.Repeat("1", pos))
		}
	}
}

// P4.1: a length that is outside of bounds of each kind.
func TestPutOutside(t *testing.T) {
	for _, x := range validBounds() {
		for _, far := range []int{1, 2, 127, 128, 16384, 65536, 1 << 40} {
			if n := x.lo - far; n >= 0 {
				checkPutFault(t, n, x, api.ErrConstraint)
			}
			if n := x.hi + far; x.hi >= 0 && n > x.hi {
				checkPutFault(t, n, x, api.ErrConstraint)
			}
		}
	}
}

// P4.1: a length below 0, before one that is outside the bounds.
func TestPutNegative(t *testing.T) {
	for _, x := range validBounds() {
		for _, n := range []int{-1, -2, -128, -16384, -65536, math.MinInt, x.hi} {
			if n < 0 {
				checkPutFault(t, n, x, api.ErrArg)
			}
		}
	}
}

// P4.1: bounds that are not valid, before a length that is in none.
func TestPutBounds(t *testing.T) {
	for _, x := range wrongBounds() {
		for _, n := range append(lengths(), x.lo, x.hi, -1, math.MinInt) {
			checkPutFault(t, n, x, api.ErrArg)
		}
	}
}

// P4.1: a nil Writer, before all else.
func TestPutNil(t *testing.T) {
	var w *stream.Writer
	for _, x := range append(validBounds(), wrongBounds()...) {
		for _, n := range append(lengths(), x.lo, x.hi, -1, math.MinInt) {
			for _, aligned := range both {
				if count, more, e := length.Put(w, aligned, n, x.lo, x.hi); count != 0 || more || e != api.ErrArg {
					t.Fatal(n, x, aligned, count, more, e)
				}
			}
		}
	}
}
