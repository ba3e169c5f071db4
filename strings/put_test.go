package strings_test

import (
	"fmt"
	"math"
	"math/rand"
	"strings"
	"testing"

	"spandrel/api"
	"spandrel/stream"
)

// kinds is strings of all kinds, and texts of each width.
func kinds() []kind {
	return []kind{
		octets, bits, text(""), text("a"), text("ab"), text("abc"), text("0123456789"), text(run(0, 16)), text(run(60, 17)),
		text(run(64, 64)), text(run(63, 65)), text("\x01\x02\x03"),
	}
}

// size is a number of units and its bounds.
type size struct{ n, lo, hi int }

// sizes is numbers of units, of which there are few, within bounds of all sorts.
func sizes() []size {
	list := []size{
		{0, 0, 0}, {1, 1, 1}, {2, 2, 2}, {3, 3, 3}, {4, 4, 4}, {8, 8, 8}, {15, 15, 15}, {16, 16, 16}, {17, 17, 17}, {100, 100, 100},
		{5, 5, -1}, {5, 5, math.MinInt}, {5, 0, math.MaxInt}, {130, 128, 1 << 20}, {200, 0, 16384}, {0, 0, 1 << 30}, {7, 3, 1 << 20},
	}
	for _, hi := range []int{1, 2, 3, 4, 5, 7, 8, 15, 16, 17, 254, 255, 256, 257, 1000, 65534, 65535, 65536, 65537, -1} {
		for _, n := range []int{0, 1, 2, 3, 127, 128} {
			if hi < 0 || n <= hi {
				list = append(list, size{n, 0, hi}, size{n, n / 2, hi}, size{n, n, hi}, size{n, min(n, 1), hi})
			}
		}
	}
	return list
}

// P6.2, P6.4: strings of all kinds, of few units, within bounds of all sorts, in
// both variants, at each place in an octet.
func TestFew(t *testing.T) {
	for _, k := range kinds() {
		for _, x := range sizes() {
			for pos := range 9 {
				for _, aligned := range both {
					checkPut(t, k, pos, aligned, k.content(x.n), x.lo, x.hi)
				}
			}
		}
	}
}

// P6.2, P6.4: strings of all kinds at the ends of the forms of a length, which
// is not narrow.
func TestMany(t *testing.T) {
	for _, k := range kinds() {
		for i, n := range []int{126, 127, 128, 129, 16383, 16384, 16385, 32768, 49151, 65535, 65536, 65537, 65536 + 128, 81920, 131072} {
			for j, aligned := range both {
				s, pos := k.content(n), (i+5*j)%9
				checkPut(t, k, pos, aligned, s, 0, -1)
				checkPut(t, k, pos+3, aligned, s, n, -1)
				checkPut(t, k, pos+5, aligned, s, n/2, max(n, 65536))
				checkPut(t, k, pos+6, aligned, s, n, n)
				if n <= 65535 {
					checkPut(t, k, pos+7, aligned, s, 100, 65535)
					checkPut(t, k, pos+2, aligned, s, n-1, n)
				}
			}
		}
	}
}

// P6.2, P6.4: as many units as there may be.
func TestMost(t *testing.T) {
	for i, k := range kinds() {
		if i > 5 {
			continue
		}
		for j, x := range []size{{1 << 20, 0, -1}, {1 << 20, 1 << 20, 1 << 20}, {1<<20 - 1, 5, math.MaxInt}} {
			checkPut(t, k, i, (i+j)%2 == 0, k.content(x.n), x.lo, x.hi)
		}
		checkPut(t, k, 3, i%2 > 0, k.content(1<<20), 0, 1<<20)
	}
}

// P6.2: strings spelled out by hand, behind the bits 111. A dot stands for the
// zeros of Align, of which there may be none.
func TestRows(t *testing.T) {
	digit := text("0123456789")
	for _, x := range []struct {
		k       kind
		s       string
		lo, hi  int
		u, a    string
		comment string
	}{
		{octets, "\x07\x08", 2, 2, "0000011100001000", "0000011100001000", "the chapter's: fixed, 16 bits are not aligned"},
		{bits, "101", 0, 7, "011101", "011.101", "the chapter's"},
		{text("ab"), "b", 0, 3, "011", "011", "the chapter's"},

		{octets, "", 0, 0, "", "", "fixed, none"},
		{octets, "\xff", 1, 1, "11111111", "11111111", "fixed, 8 bits"},
		{octets, "\x01\x02\x03", 3, 3, "000000010000001000000011", ".000000010000001000000011", "fixed, 24 bits"},
		{octets, "", 0, 1, "0", "0", "none: not aligned"},
		{octets, "\xff", 0, 1, "111111111", "1.11111111", "aligned, though there are few bits"},
		{octets, "\xff", 1, 2, "011111111", "0.11111111", "aligned, though there are few bits"},
		{octets, "\xff", 0, 255, "0000000111111111", ".0000000111111111", "a length of an octet"},
		{octets, "\xff", 0, 65535, "000000000000000111111111", ".000000000000000111111111", "a length of two octets"},
		{octets, "\xff", 0, 65536, "0000000111111111", ".0000000111111111", "not narrow"},
		{octets, "\xff", 1, -1, "0000000111111111", ".0000000111111111", "no upper bound"},
		{octets, "", 0, -1, "00000000", ".00000000", "no upper bound, none"},

		{bits, "", 0, 0, "", "", "fixed, none"},
		{bits, "1", 1, 1, "1", "1", "fixed, 1 bit"},
		{bits, "1010101010101011", 16, 16, "1010101010101011", "1010101010101011", "fixed, 16 bits"},
		{bits, "10101010101010111", 17, 17, "10101010101010111", ".10101010101010111", "fixed, 17 bits"},
		{bits, "1", 0, 1, "11", "1.1", "aligned, though there is one bit"},
		{bits, "", 0, 1, "0", "0", "none: not aligned"},
		{bits, "11", 2, 5, "0011", "00.11", "the offset of the size"},
		{bits, "1", 0, -1, "000000011", ".000000011", "no upper bound"},

		{text(""), "ab", 2, 2, "11000011100010", "0110000101100010", "fixed, 14 and 16 bits"},
		{text(""), "abc", 3, 3, "110000111000101100011", ".011000010110001001100011", "fixed, 21 and 24 bits"},
		{text(""), "a", 0, 1, "11100001", "101100001", "up to 8 bits: not aligned"},
		{text(""), "a", 0, 2, "011100001", "01.01100001", "up to 16 bits: aligned"},
		{text(""), "", 0, 2, "00", "00", "none: not aligned"},
		{text("ab"), "ba", 0, 15, "001010", "001010", "up to 15 bits: not aligned"},
		{text("ab"), "ba", 0, 16, "0001010", "00010.10", "up to 16 bits: aligned"},
		{text("abc"), "cb", 1, 7, "0011001", "0011001", "up to 14 bits: not aligned"},
		{text("abc"), "cb", 1, 8, "0011001", "001.1001", "up to 16 bits: aligned"},
		{digit, "12", 0, 3, "1000010010", "1000010010", "up to 12 bits: not aligned"},
		{digit, "12", 0, 4, "01000010010", "010.00010010", "up to 16 bits: aligned"},
		{digit, "1234", 4, 4, "0001001000110100", "0001001000110100", "fixed, 16 bits"},
		{digit, "12345", 5, 5, "00010010001101000101", ".00010010001101000101", "fixed, 20 bits"},
		{digit, "12", 0, -1, "0000001000010010", ".0000001000010010", "no upper bound"},
		{text("ab"), "b", 1, -1, "000000011", ".000000011", "no upper bound, one bit"},
		{text("a"), "aaa", 0, 7, "011", "011", "characters without bits"},
		{text("a"), "aaa", 3, 3, "", "", "characters without bits, fixed"},
		{text("a"), "aaa", 0, 65535, "0000000000000011", ".0000000000000011", "characters without bits, two octets"},
		{text("a"), "aaa", 0, -1, "00000011", ".00000011", "characters without bits, no upper bound"},
	} {
		for _, aligned := range both {
			want := "111" + x.u
			if aligned {
				head, tail, found := strings.Cut("111"+x.a, ".")
				want = head + tail
				if found {
					want = head + padded(len(head), true) + tail
				}
			}
			w := writer(3)
			if e := x.k.put(w, aligned, x.s, x.lo, x.hi); e != api.OK {
				t.Fatalf("%s, aligned %v: error %d", x.comment, aligned, e)
			}
			if got := digits(w.Bytes())[:w.Len()]; got != want {
				t.Errorf("%s, aligned %v: %s, not %s", x.comment, aligned, got, want)
			}
			r := at(packed(want), 3)
			if s, e := x.k.get(r, aligned, x.lo, x.hi); s != x.s || e != api.OK || r.Pos() != len(want) {
				t.Errorf("%s, aligned %v: %q, error %d, at %d", x.comment, aligned, s, e, r.Pos())
			}
		}
	}
}

// fragment is the octets of a length, and how many units stand behind it.
type fragment struct {
	head  string
	count int
}

func none() fragment  { return fragment{"00000000", 0} }
func last() fragment  { return fragment{"1011111111111111", 16383} }
func one() fragment   { return fragment{"11000001", 16384} }
func two() fragment   { return fragment{"11000010", 32768} }
func three() fragment { return fragment{"11000011", 49152} }
func four() fragment  { return fragment{"11000100", 65536} }

// fours is m fragments of 65536 units.
func fours(m int) []fragment {
	var list []fragment
	for range m {
		list = append(list, four())
	}
	return list
}

// P6.2: the lengths behind the bits 111, spelled out by hand, where bounds are
// not narrow.
func TestFragments(t *testing.T) {
	for _, x := range []struct {
		size
		fragments []fragment
	}{
		{size{0, 0, -1}, []fragment{none()}},
		{size{127, 0, 65536}, []fragment{{"01111111", 127}}},
		{size{128, 128, -1}, []fragment{{"1000000010000000", 128}}},
		{size{16383, 0, -1}, []fragment{last()}},
		{size{16384, 16384, 65536}, []fragment{one(), none()}},
		{size{16385, 16385, -1}, []fragment{one(), {"00000001", 1}}},
		{size{32767, 5, -1}, []fragment{one(), last()}},
		{size{65535, 0, 65536}, []fragment{three(), last()}},
		{size{65536, 65536, 65536}, []fragment{four(), none()}},
		{size{65537, 65537, 65537}, []fragment{four(), {"00000001", 1}}},
		{size{65537, 0, 1 << 20}, []fragment{four(), {"00000001", 1}}},
		{size{65536 + 16384, 0, -1}, []fragment{four(), one(), none()}},
		{size{131072 + 49157, 0, -1}, []fragment{four(), four(), three(), {"00000101", 5}}},
		{size{1 << 20, 1 << 20, -1}, append(fours(16), none())},
	} {
		for _, k := range []kind{octets, bits, text("abc"), text("a")} {
			for _, aligned := range both {
				s := k.content(x.n)
				want, from := "111", 0
				for _, f := range x.fragments {
					want += padded(len(want), aligned) + f.head + k.spell(aligned, s[from:from+f.count])
					from += f.count
				}
				if from != x.n {
					t.Fatal("a row is wrong:", x.n, from)
				}
				w := writer(3)
				if e := k.put(w, aligned, s, x.lo, x.hi); e != api.OK {
					t.Fatal(x, k, aligned, e)
				}
				checkHolds(t, w, want)
				r := at(packed(want), 3)
				if got, e := k.get(r, aligned, x.lo, x.hi); got != s || e != api.OK || r.Pos() != len(want) {
					t.Fatal(x, k, aligned, shown(got), e, r.Pos())
				}
			}
		}
	}
}

// P6.2: what may not be written is refused, and nothing is written, nor aligned.
func TestPutWrong(t *testing.T) {
	ab, long := text("ab"), strings.Repeat("1", 1<<20+1)
	for _, x := range []struct {
		k      kind
		s      string
		lo, hi int
		e      api.Errno
	}{
		{octets, "abc", -1, 5, api.ErrArg},
		{octets, "abc", math.MinInt, -1, api.ErrArg},
		{octets, "abc", 3, 2, api.ErrArg},
		{octets, "abc", math.MaxInt, 0, api.ErrArg},
		{octets, long, -1, -1, api.ErrArg},
		{bits, "101", -1, 5, api.ErrArg},
		{bits, "101", 4, 3, api.ErrArg},
		{bits, "102", -1, 2, api.ErrArg},
		{bits, long, 70000, 65536, api.ErrArg},
		{ab, "ab", -1, -1, api.ErrArg},
		{ab, "ab", 5, 4, api.ErrArg},
		{ab, "abc", -5, -5, api.ErrArg},
		{text("ba"), "abc", 0, 2, api.ErrArg},
		{text("ba"), long, 0, 2, api.ErrArg},

		{octets, "", 1, 1, api.ErrConstraint},
		{octets, "a", 0, 0, api.ErrConstraint},
		{octets, "a", 2, 3, api.ErrConstraint},
		{octets, "abcd", 2, 3, api.ErrConstraint},
		{octets, "abcd", 5, -1, api.ErrConstraint},
		{octets, "abcd", 5, 65536, api.ErrConstraint},
		{octets, "abcd", math.MaxInt, -1, api.ErrConstraint},
		{octets, "abcd", math.MaxInt, math.MaxInt, api.ErrConstraint},
		{octets, long[:65536], 0, 65535, api.ErrConstraint},
		{octets, long[:65537], 65536, 65536, api.ErrConstraint},
		{octets, long[:65535], 65536, 65536, api.ErrConstraint},
		{octets, long, 0, 1 << 20, api.ErrConstraint},
		{octets, long, 1<<20 + 2, -1, api.ErrConstraint},
		{bits, "", 1, -1, api.ErrConstraint},
		{bits, "0101", 0, 3, api.ErrConstraint},
		{bits, "0101", 5, 5, api.ErrConstraint},
		{bits, "012", 0, -1, api.ErrConstraint},
		{bits, "2", 1, 1, api.ErrConstraint},
		{bits, "/", 1, 1, api.ErrConstraint},
		{bits, "\x00", 0, 5, api.ErrConstraint},
		{bits, "\x01", 0, 5, api.ErrConstraint},
		{bits, " 1", 0, 5, api.ErrConstraint},
		{bits, "1é", 0, 5, api.ErrConstraint},
		{bits, "1\xff", 0, 5, api.ErrConstraint},
		{bits, long[:1<<20-1] + "x", 0, -1, api.ErrConstraint},
		{bits, long + "x", 0, -1, api.ErrConstraint},
		{bits, long, 0, 1 << 20, api.ErrConstraint},
		{ab, "abab", 0, 3, api.ErrConstraint},
		{ab, "abab", 5, -1, api.ErrConstraint},
		{ab, "abc", 0, -1, api.ErrConstraint},
		{ab, "`", 1, 1, api.ErrConstraint},
		{ab, "\x00", 1, 1, api.ErrConstraint},
		{ab, "\x80", 1, 1, api.ErrConstraint},
		{ab, "é", 0, 5, api.ErrConstraint},
		{ab, strings.Repeat("ab", 1<<19) + "c", 0, -1, api.ErrConstraint},
		{text(""), "é", 0, 5, api.ErrConstraint},
		{text(""), "\x80", 1, 1, api.ErrConstraint},
		{text(""), "a\xff", 0, -1, api.ErrConstraint},
		{text("\x01\x02\x03"), "\x00", 1, 1, api.ErrConstraint},

		{octets, long, 0, -1, api.ErrLarge},
		{octets, long, 0, 1<<20 + 1, api.ErrLarge},
		{octets, long, 1<<20 + 1, 1<<20 + 1, api.ErrLarge},
		{octets, long + long, 0, math.MaxInt, api.ErrLarge},
		{bits, long, 0, -1, api.ErrLarge},
		{bits, long + long, 5, 4 << 20, api.ErrLarge},
		{text("1"), long, 0, -1, api.ErrLarge},
		{text("01"), long, 0, math.MaxInt, api.ErrLarge},
		{text(""), long + long, 1, -1, api.ErrLarge},
	} {
		for _, aligned := range both {
			for _, pos := range []int{0, 3, 8} {
				w := writer(pos)
				if e := x.k.put(w, aligned, x.s, x.lo, x.hi); e != x.e {
					t.Errorf("%q %s, aligned %v, %d to %d: error %d, not %d", x.k, shown(x.s), aligned, x.lo, x.hi, e, x.e)
				}
				checkHolds(t, w, ones(pos))
			}
			if e := x.k.put(nil, aligned, x.s, x.lo, x.hi); e != api.ErrArg {
				t.Errorf("%q %s without a Writer: error %d", x.k, shown(x.s), e)
			}
		}
	}
}

// P6.2: a nil Writer, before all else.
func TestNilWriter(t *testing.T) {
	for _, k := range append(kinds(), text("ba")) {
		for _, x := range append(sizes(), size{3, 4, 5}, size{3, -1, 5}, size{3, 5, 4}, size{1<<20 + 1, 0, -1}) {
			for _, aligned := range both {
				if e := k.put(nil, aligned, k.content(x.n), x.lo, x.hi); e != api.ErrArg {
					t.Fatal(k, x, aligned, e)
				}
			}
		}
	}
}

// P6.2: each octet among bits, and each among the characters of all.
func TestEachOctet(t *testing.T) {
	for o := range 256 {
		c := string([]byte{byte(o)})
		for _, aligned := range both {
			checkPut(t, bits, o%9, aligned, "1"+c+"0", 0, 3)
			checkPut(t, text(""), o%9, aligned, "1"+c+"0", 0, -1)
			checkPut(t, text("01"), o%9, aligned, "1"+c+"0", 3, 3)
			checkPut(t, octets, o%9, aligned, "1"+c+"0", 1, 4)
		}
	}
}

// P6.2: all small sizes with all small bounds, valid or not.
func TestSmallBounds(t *testing.T) {
	for _, k := range []kind{octets, bits, text(""), text("abc"), text("a")} {
		for lo := -2; lo < 6; lo++ {
			for hi := -2; hi < 20; hi++ {
				for n := range 7 {
					checkPut(t, k, (lo+hi+n+9)%9, true, k.content(n), lo, hi)
					checkPut(t, k, (lo+hi+n+9)%9, false, k.content(n), lo, hi)
				}
			}
		}
	}
}

// P6.4: strings, one behind the other.
func TestSequence(t *testing.T) {
	from, all, bounds := rand.New(rand.NewSource(6)), kinds(), sizes()
	for range 300 {
		var w stream.Writer
		var calls []func(r *stream.Reader) string
		aligned := from.Intn(2) == 0
		for range 20 {
			k, x, bit := all[from.Intn(len(all))], bounds[from.Intn(len(bounds))], from.Intn(3) == 0
			if from.Intn(50) == 0 {
				x = size{16384 * (1 + from.Intn(5)), from.Intn(16384), -1}
			}
			s := k.content(x.n)
			if bit {
				w.Put(1, 1)
			}
			k.put(&w, aligned, s, x.lo, x.hi)
			end := w.Len()
			calls = append(calls, func(r *stream.Reader) string {
				if bit {
					r.Get(1)
				}
				got, e := k.get(r, aligned, x.lo, x.hi)
				if got != s || e != api.OK || r.Pos() != end {
					return fmt.Sprint(k, x, aligned, shown(got), e, r.Pos(), end)
				}
				return ""
			})
		}
		r := stream.New(w.Bytes())
		for _, call := range calls {
			if s := call(r); s != "" {
				t.Fatal(s)
			}
		}
		if r.End() != api.OK {
			t.Fatal(r.End())
		}
	}
}
