package length_test

import (
	"math"
	"math/rand"
	"strings"
	"testing"

	"spandrel/api"
	"spandrel/length"
	"spandrel/stream"
)

// P4.4: what Put wrote is read by Get, which consumes the same number of bits,
// whatever follows.
func TestRoundTrip(t *testing.T) {
	for _, x := range validBounds() {
		for _, n := range append(lengths(), x.lo, x.lo+1, x.hi-1, x.hi) {
			if n < 0 || !x.holds(n) {
				continue
			}
			for _, pos := range []int{0, 3, 8, 15} {
				for _, aligned := range both {
					w := writer(pos)
					count, more, _ := length.Put(w, aligned, n, x.lo, x.hi)
					end := w.Len()
					w.Put(math.MaxUint64, 64)
					r := at(w.Bytes(), pos)
					if got, still, e := length.Get(r, aligned, x.lo, x.hi); got != count || still != more || e != api.OK || r.Pos() != end {
						t.Fatal(x, n, pos, aligned, got, still, e, r.Pos(), end)
					}
				}
			}
		}
	}
}

// P4.1, P4.4: the fragments of a length, one behind the other, are read until no
// other one follows, and are as many units as the length says.
func TestFragments(t *testing.T) {
	for _, total := range []int{0, 127, 16383, 16384, 16385, 65535, 65536, 65537, 70000, 131071, 131072, 200000, 1 << 20} {
		for _, aligned := range both {
			w := writer(3)
			for left, more := total, true; more; {
				var count int
				count, more, _ = length.Put(w, aligned, left, 0, -1)
				left -= count
			}
			r, sum := at(w.Bytes(), 3), 0
			for more := true; more; {
				var count int
				var e api.Errno
				if count, more, e = length.Get(r, aligned, 0, -1); e != api.OK {
					t.Fatal(total, aligned, e)
				}
				sum += count
			}
			if sum != total || r.Pos() != w.Len() {
				t.Fatal(total, aligned, sum, r.Pos(), w.Len())
			}
		}
	}
}

// P4.4: lengths and small numbers, one behind the other.
func TestSequence(t *testing.T) {
	from, all, list := rand.New(rand.NewSource(5)), lengths(), validBounds()
	// No length has these bounds: they stand for a small number.
	small := bounds{1, 0}
	for range 500 {
		var w stream.Writer
		var ns, ends []int
		var xs []bounds
		aligned := from.Intn(2) == 0
		for range 30 {
			n, x := all[from.Intn(len(all))], list[from.Intn(len(list))]
			if from.Intn(2) == 0 {
				x = small
				length.PutSmall(&w, aligned, n)
			} else {
				if !x.holds(n) {
					n = x.lo
				}
				n, _, _ = length.Put(&w, aligned, n, x.lo, x.hi)
			}
			ns, xs, ends = append(ns, n), append(xs, x), append(ends, w.Len())
		}
		r := stream.New(w.Bytes())
		for i, x := range xs {
			n, e := 0, api.OK
			if x == small {
				n, e = length.GetSmall(r, aligned)
			} else {
				n, _, e = length.Get(r, aligned, x.lo, x.hi)
			}
			if n != ns[i] || e != api.OK || r.Pos() != ends[i] {
				t.Fatal(aligned, x, ns[i], n, e, r.Pos(), ends[i])
			}
		}
		if r.End() != api.OK {
			t.Fatal(r.End())
		}
	}
}

// P4.2: a nil Reader, and bounds that are not valid, of which nothing is read.
func TestGetArguments(t *testing.T) {
	for _, aligned := range both {
		for _, x := range append(validBounds(), wrongBounds()...) {
			if n, more, e := length.Get(nil, aligned, x.lo, x.hi); n != 0 || more || e != api.ErrArg {
				t.Fatal(x, aligned, n, more, e)
			}
		}
		for _, x := range wrongBounds() {
			for _, b := range [][]byte{nil, {0}, {193, 5}, {1, 2, 3, 4, 5, 6, 7, 8, 9, 10}} {
				r := stream.New(b)
				if n, more, e := length.Get(r, aligned, x.lo, x.hi); n != 0 || more || e != api.ErrArg || r.Pos() != 0 {
					t.Fatal(x, b, aligned, n, more, e, r.Pos())
				}
			}
		}
	}
}

// P4.2: octets that end before the length does.
func TestGetShort(t *testing.T) {
	for _, x := range validBounds() {
		for _, n := range []int{x.lo, x.hi} {
			if !x.holds(n) || n < 0 {
				continue
			}
			for pos := range 9 {
				for _, aligned := range both {
					w := writer(pos)
					length.Put(w, aligned, n, x.lo, x.hi)
					for kept := (pos + 7) / 8; 8*kept < w.Len(); kept++ {
						if a := checkGet(t, w.Bytes()[:kept], pos, aligned, x); a != (answer{e: api.ErrShort}) {
							t.Fatal(x, n, pos, aligned, kept, a)
						}
					}
				}
			}
		}
	}
}

// P4.2: padding that is not zero, at each of its bits, ahead of all that is
// read behind it.
func TestGetPadding(t *testing.T) {
	for _, x := range []bounds{{0, 255}, {0, 300}, {0, 65535}, {0, 65536}, {5, 70000}, {0, -1}, {1, math.MinInt}} {
		for pos := 1; pos < 16; pos++ {
			ones, zeros := strings.Repeat("1", pos), padded(pos, true)
			for i := range len(zeros) {
				s := ones + zeros[:i] + "1" + zeros[i+1:]
				for _, more := range []string{"", "00000101", "11000001", "11111111", "1000000000000000"} {
					if a := checkGet(t, packed(s+more), pos, true, x); a != (answer{e: api.ErrForm}) {
						t.Fatal(x, s, more, a)
					}
				}
			}
		}
	}
}

// fault is digits that begin an octet, bounds, and the error.
type fault struct {
	bits   string
	lo, hi int
	e      api.Errno
}

// faults is wrong bits by hand: among them those that are wrong twice, and their
// neighbours that are right.
func faults() []fault {
	z := strings.Repeat("0", 8)
	return []fault{
		{"", 0, -1, api.ErrShort},
		{"", 0, 65536, api.ErrShort},
		{"", 3, 3, api.OK},
		{"10000000", 0, -1, api.ErrShort},
		{"10111111", 0, -1, api.ErrShort},
		{"10000000", 200, 65536, api.ErrShort},
		// Two octets where one is enough, be the length in the bounds or not.
		{"10000000" + z, 0, -1, api.ErrForm},
		{"1000000000000101", 0, -1, api.ErrForm},
		{"1000000001111111", 0, -1, api.ErrForm},
		{"1000000001111111", 0, 65536, api.ErrForm},
		{"1000000001111111", 128, -1, api.ErrForm},
		{"1000000010000000", 0, -1, api.OK},
		// Fragments of no pieces, and of too many.
		{"11000000", 0, -1, api.ErrForm},
		{"11000000", 1, 65536, api.ErrForm},
		{"11000001", 0, -1, api.OK},
		{"11000100", 0, -1, api.OK},
		{"11000101", 0, -1, api.ErrForm},
		{"11000101", 0, 65536, api.ErrForm},
		{"11001000", 0, -1, api.ErrForm},
		{"11010000", 0, -1, api.ErrForm},
		{"11100001", 0, -1, api.ErrForm},
		{"11111111", 0, -1, api.ErrForm},
		// A length that is less than the lower bound; a fragment may be.
		{"00000000", 1, -1, api.ErrConstraint},
		{"00000100", 5, 65536, api.ErrConstraint},
		{"00000101", 5, 65536, api.OK},
		{"01111111", 128, -1, api.ErrConstraint},
		{"1000000011000111", 200, -1, api.ErrConstraint},
		{"1000000011001000", 200, -1, api.OK},
		{"1011111111111111", 16384, -1, api.ErrConstraint},
		{"11000001", 16384, -1, api.OK},
		{"11000001", 16385, -1, api.OK},
		{"11000001", 65536, 65536, api.OK},
		{"11000001", math.MaxInt, -1, api.OK},
		{"11000100", 70000, 70000, api.OK},
		// The greatest fragment is at most an upper bound that is not narrow.
		{"11000100", 0, 65536, api.OK},
		{"11000100", 65536, 65536, api.OK},
		{"11000100", 0, 65537, api.OK},
		// Narrow bounds have none of the forms: what would be a fragment that is
		// greater than they allow is another length that is.
		{"1100000100000000", 0, 300, api.ErrConstraint},
		{"1100000100000000", 0, 40000, api.ErrConstraint},
		{"1100010000000000", 0, 200, api.OK},
		{"110", 0, 4, api.ErrConstraint},
		{"11111111", 0, 254, api.ErrConstraint},
		{"1", 0, 127, api.OK},
		{"11111111", 0, 65535, api.ErrShort},
		{"1111111111111111", 0, 65535, api.OK},
		{"1111111111111111", 0, 65534, api.ErrConstraint},
		{"1111111111111111", 1, 65535, api.ErrConstraint},
	}
}

// P4.2: the first error that occurs, with zeros beside it.
func TestGetFaults(t *testing.T) {
	for _, x := range faults() {
		for _, aligned := range both {
			a := checkGet(t, packed(x.bits), 0, aligned, bounds{x.lo, x.hi})
			if a.e != x.e || a.e != api.OK && a != (answer{e: x.e}) {
				t.Errorf("%v, aligned %v: %v", x, aligned, a)
			}
		}
	}
}

// checkOnly holds Get against P4.2, and that a length that was read has no other
// bits than those that were read.
func checkOnly(t *testing.T, b []byte, pos int, aligned bool, x bounds) {
	t.Helper()
	a := checkGet(t, b, pos, aligned, x)
	if a.e != api.OK {
		return
	}
	// What a fragment is part of may have any length that is as great.
	from := bounds{0, x.hi}
	if !a.more {
		from.lo = x.lo
	}
	if want, same := written(pos, aligned, a.n, from); same != a || !strings.HasPrefix(digits(b)[pos:], want) {
		t.Fatal(b, pos, aligned, x, a, same, want)
	}
}

// P4.2: all pairs of octets behind any number of bits are refused, or are the
// length that they are.
func TestGetAny(t *testing.T) {
	list := []bounds{{0, -1}, {1, -1}, {127, -2}, {128, -1}, {16384, -1}, {0, 65536}, {200, 65536}, {65536, 65536}, {20000, 100000}, {0, 65535}, {300, 65535}, {0, 255}, {1, 300}, {5, 9}, {7, 7}}
	for v := range 1 << 16 {
		b := []byte{byte(v >> 8), byte(v)}
		for _, pos := range []int{0, v % 17} {
			checkOnly(t, b, pos, v%3 > 0, list[0])
			checkOnly(t, b, pos, v%2 > 0, list[v%len(list)])
		}
	}
	from := rand.New(rand.NewSource(6))
	for range 20000 {
		b := make([]byte, 2+from.Intn(4))
		for i := range b {
			b[i] = byte(from.Int()) & byte(from.Int()>>from.Intn(8))
		}
		for _, x := range list {
			checkOnly(t, b, from.Intn(9), from.Intn(4) > 0, x)
		}
	}
}

// P1, P4.1 to P4.4: whatever octets, bounds and numbers there are, each call
// answers what the chapter asks for.
func FuzzLength(f *testing.F) {
	f.Add([]byte{128, 200}, 0, false, 0, -1, 200)
	f.Add([]byte{224, 196}, 3, true, 0, 65536, 70000)
	f.Add([]byte{0, 5}, 0, true, 0, 65535, 5)
	f.Add([]byte{128, 1, 64}, 0, true, 1, 0, 64)
	f.Add([]byte{}, 0, true, -1, -1, -1)
	f.Fuzz(func(t *testing.T, b []byte, pos int, aligned bool, lo, hi, n int) {
		pos = min(max(pos, 0)%17, 8*len(b))
		x := bounds{lo, hi}
		if lo >= 0 && (hi < 0 || lo <= hi) {
			checkOnly(t, b, pos, aligned, x)
		} else if got, more, e := length.Get(at(b, pos), aligned, lo, hi); got != 0 || more || e != api.ErrArg {
			t.Fatal(x, got, more, e)
		}
		checkPut(t, pos, aligned, n, x)
		checkOnlySmall(t, b, pos, aligned)
		checkPutSmall(t, pos, aligned, n)
	})
}
