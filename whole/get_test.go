package whole_test

import (
	"math"
	"math/rand"
	"strings"
	"testing"

	"spandrel/api"
	"spandrel/stream"
	"spandrel/whole"
)

// P3.3: what Put wrote is read by Get, which consumes the same number of bits,
// whatever follows.
func TestRoundTrip(t *testing.T) {
	for _, x := range places() {
		for _, n := range between(x) {
			for _, pos := range []int{0, 3, 8, 15} {
				for _, aligned := range []bool{false, true} {
					w := writer(pos)
					whole.Put(w, aligned, n, x.lo, x.hi)
					end := w.Len()
					w.Put(math.MaxUint64, 64)
					r := reader(t, w.Bytes(), pos)
					if got, e := whole.Get(r, aligned, x.lo, x.hi); got != n || e != api.OK || r.Pos() != end {
						t.Fatal(x, n, pos, aligned, got, e, r.Pos(), end)
					}
				}
			}
		}
	}
}

// P3.3: several integers, one behind the other, each with its bounds.
func TestSequence(t *testing.T) {
	from, list := rand.New(rand.NewSource(3)), places()
	for range 500 {
		var w stream.Writer
		var xs []bounds
		var ns, ends []int
		aligned := from.Intn(2) == 0
		for range 20 {
			x := list[from.Intn(len(list))]
			some := between(x)
			n := some[from.Intn(len(some))]
			whole.Put(&w, aligned, n, x.lo, x.hi)
			xs, ns, ends = append(xs, x), append(ns, n), append(ends, w.Len())
		}
		r := stream.New(w.Bytes())
		for i, x := range xs {
			if n, e := whole.Get(r, aligned, x.lo, x.hi); n != ns[i] || e != api.OK || r.Pos() != ends[i] {
				t.Fatal(aligned, x, ns[i], n, e, r.Pos(), ends[i])
			}
		}
		if r.Pos() > 0 && r.End() != api.OK {
			t.Fatal(r.End())
		}
	}
}

// P3.2, P3.3: where the bounds are equal nothing is read, be there bits or not.
func TestGetSame(t *testing.T) {
	for _, n := range []int{math.MinInt, -1, 0, 1, 255, 65536, math.MaxInt} {
		for _, b := range [][]byte{nil, {0}, {255}, {255, 255}} {
			for pos := range 8*len(b) + 1 {
				for _, aligned := range []bool{false, true} {
					r := reader(t, b, pos)
					if got, e := whole.Get(r, aligned, n, n); got != n || e != api.OK || r.Pos() != pos {
						t.Fatal(n, b, pos, aligned, got, e, r.Pos())
					}
				}
			}
		}
	}
}

// P3.2: a nil Reader, and bounds that are crossed, of which nothing is read.
func TestGetArguments(t *testing.T) {
	for _, aligned := range []bool{false, true} {
		for _, x := range append(places(), crossed()...) {
			if n, e := whole.Get(nil, aligned, x.lo, x.hi); n != 0 || e != api.ErrArg {
				t.Fatal(x, aligned, n, e)
			}
		}
		for _, x := range crossed() {
			for _, b := range [][]byte{nil, {0}, {1, 2, 3, 4, 5, 6, 7, 8, 9, 10}} {
				r := stream.New(b)
				if n, e := whole.Get(r, aligned, x.lo, x.hi); n != 0 || e != api.ErrArg || r.Pos() != 0 {
					t.Fatal(x, b, aligned, n, e, r.Pos())
				}
			}
		}
	}
}

// P3.2: octets that end before the integer does.
func TestGetShort(t *testing.T) {
	for _, x := range places() {
		for _, n := range []int{x.lo, x.hi} {
			for pos := range 9 {
				for _, aligned := range []bool{false, true} {
					w := writer(pos)
					whole.Put(w, aligned, n, x.lo, x.hi)
					b := w.Bytes()
					for kept := (pos + 7) / 8; 8*kept < w.Len(); kept++ {
						r := reader(t, b[:kept], pos)
						if got, e := whole.Get(r, aligned, x.lo, x.hi); got != 0 || e != api.ErrShort {
							t.Fatal(x, n, pos, aligned, b[:kept], got, e)
						}
					}
				}
			}
		}
	}
}

// P3.2: padding that is not zero, at each of its bits, ahead of all that is
// read behind it.
func TestGetPadding(t *testing.T) {
	for _, x := range []bounds{{0, 255}, {-128, 127}, {1, 300}, {0, 65535}, {0, 65536}, {0, 100000}, {math.MinInt, math.MaxInt}} {
		head := 0
		if minus(x.hi, x.lo).BitLen() > 16 {
			head = len(written(0, true, 1, 1, size(minus(x.hi, x.lo))))
		}
		for pos := 1; pos < 16; pos++ {
			bits := strings.Repeat("1", pos) + strings.Repeat("0", head)
			for i := range len(padded(len(bits))) {
				s := bits + padded(len(bits))
				s = s[:len(bits)+i] + "1" + s[len(bits)+i+1:]
				for _, more := range []string{"", strings.Repeat("0", 64), strings.Repeat("1", 64)} {
					r := reader(t, packed(s+more), pos)
					if n, e := whole.Get(r, true, x.lo, x.hi); n != 0 || e != api.ErrForm {
						t.Fatal(x, s, more, n, e)
					}
				}
			}
		}
	}
}

// fault is digits that begin an octet, bounds, and the error in each variant.
type fault struct {
	bits               string
	lo, hi             int
	unaligned, aligned api.Errno
}

// faults is wrong bits by hand: among them those that are wrong twice.
func faults() []fault {
	o, z := strings.Repeat("1", 8), strings.Repeat("0", 8)
	return []fault{
		// Offsets that are greater than the range.
		{"11", 0, 2, api.ErrConstraint, api.ErrConstraint},
		{"110", 10, 15, api.ErrConstraint, api.ErrConstraint},
		{o, 0, 254, api.ErrConstraint, api.ErrConstraint},
		{o, -254, 0, api.ErrConstraint, api.ErrConstraint},
		{"00000001" + "00101011", 1, 300, api.OK, api.OK},
		{"00000001" + "00101100", 1, 300, api.OK, api.ErrConstraint},
		{"100101100" + "0000000", 1, 300, api.ErrConstraint, api.ErrConstraint},
		{o + o, 0, 65534, api.ErrConstraint, api.ErrConstraint},
		{"10000000" + "00000001" + z + "00000001", 0, 65536, api.ErrConstraint, api.ErrConstraint},
		{"10000000" + o + o + o, 0, 100000, api.OK, api.ErrConstraint},
		// As many octets as no offset needs.
		{"11000000" + z + z + z + z, 0, 65536, api.ErrConstraint, api.ErrConstraint},
		{"11000000", 0, 65536, api.ErrShort, api.ErrConstraint},
		{"11111111", 0, 65536, api.ErrShort, api.ErrConstraint},
		// Octets that are not minimal.
		{"01000000" + z + "00000001", 0, 65536, api.OK, api.ErrForm},
		{"01000000" + z + z, 0, 65536, api.OK, api.ErrForm},
		{"10000000" + z + o + o, 0, 100000, api.OK, api.ErrForm},
		{"11100000" + z + strings.Repeat(o, 7), math.MinInt, math.MaxInt, api.OK, api.ErrForm},
		// Octets that are not there, and padding that is not zero.
		{"01000000" + o, 0, 65536, api.ErrShort, api.ErrShort},
		{"01000000" + z, 0, 65536, api.ErrShort, api.ErrShort},
		{"00000000", 0, 65536, api.ErrShort, api.ErrShort},
		{"00000001", 0, 65536, api.ErrShort, api.ErrForm},
		{"00100000" + z + z, 0, 65536, api.OK, api.ErrForm},
		{"11100001" + strings.Repeat(o, 8), math.MinInt, math.MaxInt, api.OK, api.ErrForm},
		{"11100000" + strings.Repeat(o, 7), math.MinInt, math.MaxInt, api.OK, api.ErrShort},
		{"", 0, 1, api.ErrShort, api.ErrShort},
		{"", 0, 255, api.ErrShort, api.ErrShort},
		{"", 0, 65535, api.ErrShort, api.ErrShort},
		{o, 0, 65535, api.ErrShort, api.ErrShort},
		{"", 0, 65536, api.ErrShort, api.ErrShort},
		{"", 3, 3, api.OK, api.OK},
	}
}

// P3.2: the first error that occurs, with 0 beside it.
func TestGetFaults(t *testing.T) {
	for _, x := range faults() {
		for _, aligned := range []bool{false, true} {
			var b []byte
			if x.bits != "" {
				b = packed(x.bits)
			}
			want := x.unaligned
			if aligned {
				want = x.aligned
			}
			if n, e := checkGet(t, b, 0, aligned, bounds{x.lo, x.hi}); e != want || e != api.OK && n != 0 {
				t.Errorf("%v, aligned %v: %d with error %d, not %d", x, aligned, n, e, want)
			}
		}
	}
}

// checkOnly holds that an integer that was read has no other bits than those
// that were read.
func checkOnly(t *testing.T, b []byte, pos int, aligned bool, x bounds) {
	t.Helper()
	n, e := checkGet(t, b, pos, aligned, x)
	if e != api.OK {
		return
	}
	want := written(pos, aligned, n, x.lo, x.hi)
	if n < x.lo || n > x.hi || !strings.HasPrefix(digits(b)[pos:], want) {
		t.Fatal(b, pos, aligned, x, n, want)
	}
}

// P3.2: all octets of which there are few, and random ones of which there are
// many, are refused or are an integer between the bounds.
func TestGetAny(t *testing.T) {
	list := []bounds{{0, 0}, {0, 1}, {-3, 2}, {0, 253}, {1, 255}, {-128, 127}, {0, 256}, {1, 300}, {0, 65534}, {-32768, 32767}, {0, 65536}, {0, 100000}, {0, 1<<24 - 1}, {-1, 1 << 32}, {math.MinInt, 0}, {math.MinInt, math.MaxInt}}
	for v := range 1 << 16 {
		b := []byte{byte(v >> 8), byte(v)}
		for _, x := range list {
			checkOnly(t, b[:1+v%2], v%5, v%3 > 0, x)
		}
	}
	from := rand.New(rand.NewSource(4))
	for range 20000 {
		b := make([]byte, 1+from.Intn(11))
		for i := range b {
			b[i] = byte(from.Int()) & byte(from.Int()>>from.Intn(8))
		}
		for _, x := range list {
			checkOnly(t, b, from.Intn(9), from.Intn(4) > 0, x)
		}
	}
}

// P1, P3.1 to P3.3: whatever octets and bounds there are, Get answers what the
// chapter asks for; and so does Put with whatever integer.
func FuzzWhole(f *testing.F) {
	f.Add([]byte{160}, 0, false, 0, 7, 5)
	f.Add([]byte{224, 0, 1}, 3, true, 1, 300, 2)
	f.Add([]byte{0, 5}, 0, true, 0, 100000, 5)
	f.Add([]byte{224, 1, 2, 3, 4, 5, 6, 7, 8}, 0, true, math.MinInt, math.MaxInt, 0)
	f.Add([]byte{}, 0, true, 1, 0, 0)
	f.Fuzz(func(t *testing.T, b []byte, pos int, aligned bool, lo, hi, n int) {
		pos = min(max(pos, 0)%17, 8*len(b))
		if lo <= hi {
			checkOnly(t, b, pos, aligned, bounds{lo, hi})
		} else if got, e := whole.Get(reader(t, b, pos), aligned, lo, hi); got != 0 || e != api.ErrArg {
			t.Fatal(lo, hi, got, e)
		}
		switch {
		case lo > hi:
			checkPutFault(t, n, bounds{lo, hi}, api.ErrArg)
		case n < lo || n > hi:
			checkPutFault(t, n, bounds{lo, hi}, api.ErrConstraint)
		default:
			w := writer(pos)
			e := whole.Put(w, aligned, n, lo, hi)
			checkHolds(t, w, strings.Repeat("1", pos)+written(pos, aligned, n, lo, hi))
			if e != api.OK {
				t.Fatal(n, lo, hi, e)
			}
		}
	})
}
