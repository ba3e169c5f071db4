package whole_test

import (
	"math"
	"strings"
	"testing"

	"spandrel/api"
	"spandrel/stream"
	"spandrel/whole"
)

// P3.1: the digits that are written, for the ranges about each edge, in both
// variants, at each place in an octet.
func TestPut(t *testing.T) {
	for _, x := range places() {
		for _, n := range between(x) {
			for _, pos := range []int{0, 1, 5, 7, 8, 14} {
				for _, aligned := range []bool{false, true} {
					w := writer(pos)
					if e := whole.Put(w, aligned, n, x.lo, x.hi); e != api.OK {
						t.Fatal(aligned, n, x, e)
					}
					checkHolds(t, w, strings.Repeat("1", pos)+written(pos, aligned, n, x.lo, x.hi))
				}
			}
		}
	}
}

// row is an integer, its bounds, and the digits of both variants behind the
// bits 111, spelled out by hand. A dash stands for the zeros of an Align.
type row struct {
	n, lo, hi           int
	unaligned, together string
}

// rows is the chapter's examples, and its edges.
func rows() []row {
	o, z := strings.Repeat("1", 8), strings.Repeat("0", 8)
	return []row{
		{5, 0, 7, "101", "101"},
		{0, 0, 255, z, "-" + z},
		{5, 0, 255, "00000101", "-00000101"},
		{255, 0, 255, o, "-" + o},
		{2, 1, 300, "000000001", "-" + z + "00000001"},
		{5, 0, 100000, "00000000000000101", "00-00000101"},
		{256, 0, 100000, "00000000100000000", "01-00000001" + z},
		{100000, 0, 100000, "11000011010100000", "10-000000011000011010100000"},
		{7, 7, 7, "", ""},
		{math.MinInt, math.MinInt, math.MinInt, "", ""},
		{math.MaxInt, math.MaxInt, math.MaxInt, "", ""},
		{1, 0, 1, "1", "1"},
		{-1, -2, 0, "01", "01"},
		{254, 0, 254, "11111110", "11111110"},
		{127, -127, 127, "11111110", "11111110"},
		{-128, -128, 127, z, "-" + z},
		{127, -128, 127, o, "-" + o},
		{0, 0, 256, "0" + z, "-" + z + z},
		{256, 0, 256, "1" + z, "-00000001" + z},
		{65534, 0, 65534, o + "11111110", "-" + o + "11111110"},
		{65535, 0, 65535, o + o, "-" + o + o},
		{-1, -1, 65534, z + z, "-" + z + z},
		{0, 0, 65536, "0" + z + z, "00-" + z},
		{255, 0, 65536, "0" + z + o, "00-" + o},
		{65535, 0, 65536, "0" + o + o, "01-" + o + o},
		{65536, 0, 65536, "1" + z + z, "10-00000001" + z + z},
		{math.MinInt, math.MinInt, math.MaxInt, strings.Repeat(z, 8), "000-" + z},
		{0, math.MinInt, math.MaxInt, "10000000" + strings.Repeat(z, 7), "111-10000000" + strings.Repeat(z, 7)},
		{math.MaxInt, math.MinInt, math.MaxInt, strings.Repeat(o, 8), "111-" + strings.Repeat(o, 8)},
	}
}

// P3.1, P3.2: what is spelled out is what is written, and is read.
func TestRows(t *testing.T) {
	for _, x := range rows() {
		for _, aligned := range []bool{false, true} {
			want := "111" + x.unaligned
			if aligned {
				head, tail, dash := strings.Cut("111"+x.together, "-")
				want = head
				if dash {
					want += padded(len(head)) + tail
				}
			}
			w := writer(3)
			if e := whole.Put(w, aligned, x.n, x.lo, x.hi); e != api.OK {
				t.Fatal(x, aligned, e)
			}
			checkHolds(t, w, want)
			r := reader(t, packed(want), 3)
			if n, e := whole.Get(r, aligned, x.lo, x.hi); n != x.n || e != api.OK || r.Pos() != len(want) {
				t.Fatal(x, aligned, n, e, r.Pos())
			}
		}
	}
}

// P3.1, P3.3: where the bounds are equal nothing is written, nor aligned.
func TestPutSame(t *testing.T) {
	for _, n := range []int{math.MinInt, -1, 0, 1, 255, 65536, math.MaxInt} {
		for pos := range 17 {
			for _, aligned := range []bool{false, true} {
				w := writer(pos)
				if e := whole.Put(w, aligned, n, n, n); e != api.OK {
					t.Fatal(n, pos, aligned, e)
				}
				checkHolds(t, w, strings.Repeat("1", pos))
			}
		}
	}
}

// checkPutFault holds an error of Put, at some places in an octet, and that
// nothing was written, nor aligned.
func checkPutFault(t *testing.T, n int, x bounds, want api.Errno) {
	t.Helper()
	for _, pos := range []int{0, 1, 3, 8, 15} {
		for _, aligned := range []bool{false, true} {
			w := writer(pos)
			if e := whole.Put(w, aligned, n, x.lo, x.hi); e != want {
				t.Fatal(n, x, pos, aligned, e, want)
			}
			checkHolds(t, w, strings.Repeat("1", pos))
		}
	}
}

// P3.1: an integer that is not between the bounds.
func TestPutOutside(t *testing.T) {
	for _, x := range places() {
		for _, far := range []int{1, 2, 255, 256, 65536, 1 << 40} {
			if n := x.lo - far; n < x.lo {
				checkPutFault(t, n, x, api.ErrConstraint)
			}
			if n := x.hi + far; n > x.hi {
				checkPutFault(t, n, x, api.ErrConstraint)
			}
		}
		if x.lo > math.MinInt {
			checkPutFault(t, math.MinInt, x, api.ErrConstraint)
		}
		if x.hi < math.MaxInt {
			checkPutFault(t, math.MaxInt, x, api.ErrConstraint)
		}
	}
}

// crossed is bounds of which the lower one is the greater one.
func crossed() []bounds {
	return []bounds{
		{1, 0}, {0, -1}, {2, 1}, {256, 0}, {65536, 0}, {1000, -1000},
		{math.MaxInt, math.MinInt}, {math.MaxInt, math.MaxInt - 1},
		{math.MinInt + 1, math.MinInt}, {0, math.MinInt}, {math.MaxInt, 0},
	}
}

// P3.1: bounds that are crossed, before an integer that is between none.
func TestPutCrossed(t *testing.T) {
	for _, x := range crossed() {
		for _, n := range []int{x.lo, x.hi, 0, 1, -1, math.MinInt, math.MaxInt} {
			checkPutFault(t, n, x, api.ErrArg)
		}
	}
}

// P3.1: a nil Writer, before all else.
func TestPutNil(t *testing.T) {
	var w *stream.Writer
	for _, x := range append(places(), crossed()...) {
		for _, n := range []int{x.lo, x.hi, 0, math.MinInt, math.MaxInt} {
			for _, aligned := range []bool{false, true} {
				if e := whole.Put(w, aligned, n, x.lo, x.hi); e != api.ErrArg {
					t.Fatal(n, x, aligned, e)
				}
			}
		}
	}
}
