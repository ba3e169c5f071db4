package open_test

import (
	"math"
	"math/rand"
	"strings"
	"testing"

	"spandrel/api"
	"spandrel/open"
	"spandrel/stream"
)

// P5.1, P5.4: integers about each edge, from lower bounds of all magnitudes on,
// equal to them and less than they are, in both variants, at some places in an
// octet.
func TestSemi(t *testing.T) {
	for _, lo := range bounds() {
		// What is above lo may be wrapped round: then it is less than lo.
		for _, n := range append(numbers(), lo, lo+1, lo+127, lo+128, lo+255, lo+256, lo-1) {
			for _, pos := range []int{0, 1, 3, 7, 8, 13} {
				for _, aligned := range both {
					checkPutSemi(t, pos, aligned, n, lo)
				}
			}
		}
	}
}

// P5.2, P5.4: integers about each edge, in both variants, at each place in an
// octet.
func TestAny(t *testing.T) {
	for _, n := range append(numbers(), 127, 128, -127, -128, -129, -130) {
		for pos := range 17 {
			for _, aligned := range both {
				checkPutAny(t, pos, aligned, n)
			}
		}
	}
}

// P5.1, P5.2, P5.4: all integers of which there are few.
func TestNumbersAll(t *testing.T) {
	for n := -40000; n < 40000; n++ {
		checkPutAny(t, (n+40000)%9, n%2 == 0, n)
		checkPutSemi(t, (n+40000)%9, n%2 == 0, n, -40000)
	}
}

// P5.1: octets of PutSemi behind the bits 111, spelled out by hand.
func TestSemiRows(t *testing.T) {
	least, most := math.MinInt, math.MaxInt
	for _, x := range []struct {
		n, lo int
		b     []byte
	}{
		{300, 1, []byte{2, 1, 43}},
		{0, 0, []byte{1, 0}},
		{5, 5, []byte{1, 0}},
		{-7, -7, []byte{1, 0}},
		{least, least, []byte{1, 0}},
		{most, most, []byte{1, 0}},
		{6, 5, []byte{1, 1}},
		{-6, -7, []byte{1, 1}},
		{least + 1, least, []byte{1, 1}},
		{most, most - 1, []byte{1, 1}},
		{127, 0, []byte{1, 127}},
		{128, 0, []byte{1, 128}},
		{255, 0, []byte{1, 255}},
		{256, 0, []byte{2, 1, 0}},
		{128, -128, []byte{2, 1, 0}},
		{127, -128, []byte{1, 255}},
		{70000, 4464, []byte{3, 1, 0, 0}},
		{69999, 4464, []byte{2, 255, 255}},
		{most, 0, []byte{8, 127, 255, 255, 255, 255, 255, 255, 255}},
		{most, 1, []byte{8, 127, 255, 255, 255, 255, 255, 255, 254}},
		{most, -1, []byte{8, 128, 0, 0, 0, 0, 0, 0, 0}},
		{-1, least, []byte{8, 127, 255, 255, 255, 255, 255, 255, 255}},
		{0, least, []byte{8, 128, 0, 0, 0, 0, 0, 0, 0}},
		{1, least, []byte{8, 128, 0, 0, 0, 0, 0, 0, 1}},
		{most, least, []byte{8, 255, 255, 255, 255, 255, 255, 255, 255}},
		{most - 1, least, []byte{8, 255, 255, 255, 255, 255, 255, 255, 254}},
		{most, least + 1, []byte{8, 255, 255, 255, 255, 255, 255, 255, 254}},
	} {
		for _, aligned := range both {
			want := row(aligned, x.b)
			w := writer(3)
			if e := open.PutSemi(w, aligned, x.n, x.lo); e != api.OK {
				t.Fatal(x, aligned, e)
			}
			checkHolds(t, w, want)
			r := at(packed(want), 3)
			if n, e := open.GetSemi(r, aligned, x.lo); n != x.n || e != api.OK || r.Pos() != len(want) {
				t.Fatal(x, aligned, n, e, r.Pos())
			}
		}
	}
}

// row is octets behind the bits 111, in a variant.
func row(aligned bool, b []byte) string {
	if aligned {
		return "11100000" + digits(b)
	}
	return "111" + digits(b)
}

// P5.2: octets of PutAny behind the bits 111, spelled out by hand.
func TestAnyRows(t *testing.T) {
	for _, x := range []struct {
		n int
		b []byte
	}{
		{-1, []byte{1, 255}},
		{0, []byte{1, 0}},
		{1, []byte{1, 1}},
		{127, []byte{1, 127}},
		{128, []byte{2, 0, 128}},
		{255, []byte{2, 0, 255}},
		{256, []byte{2, 1, 0}},
		{-128, []byte{1, 128}},
		{-129, []byte{2, 255, 127}},
		{-256, []byte{2, 255, 0}},
		{32767, []byte{2, 127, 255}},
		{32768, []byte{3, 0, 128, 0}},
		{-32768, []byte{2, 128, 0}},
		{-32769, []byte{3, 255, 127, 255}},
		{1 << 55, []byte{8, 0, 128, 0, 0, 0, 0, 0, 0}},
		{-1 << 55, []byte{7, 128, 0, 0, 0, 0, 0, 0}},
		{math.MaxInt, []byte{8, 127, 255, 255, 255, 255, 255, 255, 255}},
		{math.MinInt, []byte{8, 128, 0, 0, 0, 0, 0, 0, 0}},
		{math.MinInt + 1, []byte{8, 128, 0, 0, 0, 0, 0, 0, 1}},
	} {
		for _, aligned := range both {
			want := row(aligned, x.b)
			w := writer(3)
			if e := open.PutAny(w, aligned, x.n); e != api.OK {
				t.Fatal(x, aligned, e)
			}
			checkHolds(t, w, want)
			r := at(packed(want), 3)
			if n, e := open.GetAny(r, aligned); n != x.n || e != api.OK || r.Pos() != len(want) {
				t.Fatal(x, aligned, n, e, r.Pos())
			}
		}
	}
}

// P5.1: an integer that is less than lo, of which nothing is written, nor
// aligned.
func TestSemiBelow(t *testing.T) {
	least, most := math.MinInt, math.MaxInt
	for _, x := range []struct{ n, lo int }{
		{0, 1}, {-1, 0}, {-2, -1}, {5, 6}, {-300, 300}, {least, most}, {least, least + 1}, {most - 1, most}, {0, most}, {least, 0}, {-2, most},
	} {
		for pos := range 9 {
			for _, aligned := range both {
				w := writer(pos)
				if e := open.PutSemi(w, aligned, x.n, x.lo); e != api.ErrConstraint {
					t.Fatal(x, pos, aligned, e)
				}
				checkHolds(t, w, strings.Repeat("1", pos))
			}
		}
	}
}

// P5.1, P5.2: a nil Writer, and a nil Reader, before all else.
func TestNumbersNil(t *testing.T) {
	for _, aligned := range both {
		for _, lo := range bounds() {
			for _, n := range numbers() {
				if e := open.PutSemi(nil, aligned, n, lo); e != api.ErrArg {
					t.Fatal(n, lo, aligned, e)
				}
				if e := open.PutAny(nil, aligned, n); e != api.ErrArg {
					t.Fatal(n, aligned, e)
				}
			}
			if n, e := open.GetSemi(nil, aligned, lo); n != 0 || e != api.ErrArg {
				t.Fatal(lo, aligned, n, e)
			}
		}
		if n, e := open.GetAny(nil, aligned); n != 0 || e != api.ErrArg {
			t.Fatal(aligned, n, e)
		}
	}
}

// P5.1, P5.2: nothing to read; a zero Reader has no bits, either.
func TestNumbersEmpty(t *testing.T) {
	for _, aligned := range both {
		for _, r := range []*stream.Reader{{}, stream.New(nil), stream.New([]byte{}), at([]byte{255}, 8)} {
			if n, e := open.GetSemi(r, aligned, 5); n != 0 || e != api.ErrShort {
				t.Fatal(aligned, n, e)
			}
			if n, e := open.GetAny(r, aligned); n != 0 || e != api.ErrShort {
				t.Fatal(aligned, n, e)
			}
		}
	}
}

// wrongCounts is octets whose length is none of those that are written, be there
// octets behind it or not.
func wrongCounts() []fault {
	return []fault{
		// Two octets of a length where one is enough; no pieces, or too many.
		{[]byte{128}, api.ErrShort},
		{[]byte{128, 1, 5}, api.ErrForm},
		{[]byte{128, 127}, api.ErrForm},
		{[]byte{192}, api.ErrForm},
		{[]byte{197}, api.ErrForm},
		{[]byte{255}, api.ErrForm},
		// Fragments: before their octets are read.
		{[]byte{193}, api.ErrForm},
		{[]byte{196}, api.ErrForm},
		{append([]byte{193}, content(16384)...), api.ErrForm},
		{append(append([]byte{193}, content(16384)...), 1, 5), api.ErrForm},
		{append([]byte{193}, make([]byte, 16385)...), api.ErrForm},
		// Too few octets: before their form.
		{[]byte{1}, api.ErrShort},
		{[]byte{2, 1}, api.ErrShort},
		{[]byte{2, 0}, api.ErrShort},
		{[]byte{3, 0, 0}, api.ErrShort},
		{[]byte{8, 1, 2, 3, 4, 5, 6, 7}, api.ErrShort},
		{[]byte{9, 1, 2, 3, 4, 5, 6, 7, 8}, api.ErrShort},
		{[]byte{9, 0, 0, 3, 4, 5, 6, 7, 8}, api.ErrShort},
		{[]byte{128, 128, 1}, api.ErrShort},
		{append([]byte{191, 255}, make([]byte, 16382)...), api.ErrShort},
		// No octets.
		{[]byte{0}, api.ErrForm},
		{[]byte{0, 1, 5}, api.ErrForm},
	}
}

// fault is octets, and the error that is in them.
type fault struct {
	b []byte
	e api.Errno
}

// check holds a function that reads an integer against the error, at the first
// bit and behind others.
func (x fault) check(t *testing.T, get func(b []byte, pos int, aligned bool) (int, api.Errno)) {
	t.Helper()
	for _, aligned := range both {
		for pos := range 9 {
			// Bits behind the last octet would be zeros: keep whole octets alone.
			s := strings.Repeat("1", pos) + padded(pos, aligned) + digits(x.b)
			if len(s)%8 > 0 && x.e == api.ErrShort {
				continue
			}
			if n, e := get(packed(s), pos, aligned); e != x.e || e != api.OK && n != 0 {
				t.Errorf("%s behind %d bits, aligned %v: %d with error %d, not %d", shown(x.b), pos, aligned, n, e, x.e)
			}
		}
	}
}

// P5.1: the first error that occurs, with 0 beside it; and the neighbours that
// are right.
func TestGetSemiFaults(t *testing.T) {
	faults := append(wrongCounts(), []fault{
		// Octets that are not minimal.
		{[]byte{2, 0, 0}, api.ErrForm},
		{[]byte{2, 0, 5}, api.ErrForm},
		{[]byte{2, 0, 128}, api.ErrForm},
		{[]byte{9, 0, 255, 2, 3, 4, 5, 6, 7, 8}, api.ErrForm},
		{append([]byte{128, 128, 0}, content(127)...), api.ErrForm},
		{[]byte{2, 1, 0}, api.OK},
		{[]byte{2, 255, 255}, api.OK},
		// More than 8 octets.
		{[]byte{9, 1, 0, 0, 0, 0, 0, 0, 0, 0}, api.ErrLarge},
		{[]byte{9, 255, 255, 255, 255, 255, 255, 255, 255, 255}, api.ErrLarge},
		{append([]byte{128, 128, 1}, content(127)...), api.ErrLarge},
		{append([]byte{191, 255, 1}, content(16382)...), api.ErrLarge},
	}...)
	for _, lo := range []int{0, 1, -1, math.MinInt, math.MaxInt - 65535} {
		for _, x := range faults {
			x.check(t, func(b []byte, pos int, aligned bool) (int, api.Errno) { return checkGetSemi(t, b, pos, aligned, lo) })
		}
	}
}

// P5.1: sums about the greatest one, spelled out by hand.
func TestGetSemiSums(t *testing.T) {
	least, most := math.MinInt, math.MaxInt
	half := []byte{8, 128, 0, 0, 0, 0, 0, 0, 0}
	belowHalf := []byte{8, 127, 255, 255, 255, 255, 255, 255, 255}
	aboveHalf := []byte{8, 128, 0, 0, 0, 0, 0, 0, 1}
	full := []byte{8, 255, 255, 255, 255, 255, 255, 255, 255}
	belowFull := []byte{8, 255, 255, 255, 255, 255, 255, 255, 254}
	for _, x := range []struct {
		b     []byte
		lo, n int
		e     api.Errno
	}{
		{[]byte{1, 0}, most, most, api.OK},
		{[]byte{1, 1}, most, 0, api.ErrLarge},
		{[]byte{1, 255}, most, 0, api.ErrLarge},
		{[]byte{1, 1}, most - 1, most, api.OK},
		{[]byte{1, 2}, most - 1, 0, api.ErrLarge},
		{belowHalf, 0, most, api.OK},
		{belowHalf, 1, 0, api.ErrLarge},
		{belowHalf, most, 0, api.ErrLarge},
		{belowHalf, least, -1, api.OK},
		{half, 0, 0, api.ErrLarge},
		{half, -1, most, api.OK},
		{half, least, 0, api.OK},
		{half, most, 0, api.ErrLarge},
		{aboveHalf, -1, 0, api.ErrLarge},
		{aboveHalf, -2, most, api.OK},
		{aboveHalf, least, 1, api.OK},
		{full, least, most, api.OK},
		{full, least + 1, 0, api.ErrLarge},
		{full, -1, 0, api.ErrLarge},
		{full, 0, 0, api.ErrLarge},
		{full, 1, 0, api.ErrLarge},
		{full, most, 0, api.ErrLarge},
		{belowFull, least + 1, most, api.OK},
		{belowFull, least, most - 1, api.OK},
		{belowFull, least + 2, 0, api.ErrLarge},
	} {
		for _, aligned := range both {
			for pos := range 9 {
				s := strings.Repeat("1", pos) + padded(pos, aligned) + digits(x.b)
				if n, e := checkGetSemi(t, packed(s), pos, aligned, x.lo); n != x.n || e != x.e {
					t.Error(x, pos, aligned, n, e)
				}
			}
		}
	}
}

// P5.2: the first error that occurs, with 0 beside it; and the neighbours that
// are right.
func TestGetAnyFaults(t *testing.T) {
	for _, x := range append(wrongCounts(), []fault{
		// Octets that are not minimal.
		{[]byte{2, 0, 0}, api.ErrForm},
		{[]byte{2, 0, 127}, api.ErrForm},
		{[]byte{2, 0, 128}, api.OK},
		{[]byte{2, 255, 255}, api.ErrForm},
		{[]byte{2, 255, 128}, api.ErrForm},
		{[]byte{2, 255, 127}, api.OK},
		{[]byte{8, 0, 127, 1, 2, 3, 4, 5, 6}, api.ErrForm},
		{[]byte{8, 255, 128, 1, 2, 3, 4, 5, 6}, api.ErrForm},
		{[]byte{9, 0, 127, 2, 3, 4, 5, 6, 7, 8}, api.ErrForm},
		{[]byte{9, 255, 255, 2, 3, 4, 5, 6, 7, 8}, api.ErrForm},
		{append([]byte{128, 128, 0, 127}, content(126)...), api.ErrForm},
		// More than 8 octets.
		{[]byte{9, 0, 128, 0, 0, 0, 0, 0, 0, 0}, api.ErrLarge},
		{[]byte{9, 255, 127, 0, 0, 0, 0, 0, 0, 0}, api.ErrLarge},
		{[]byte{9, 1, 0, 0, 0, 0, 0, 0, 0, 0}, api.ErrLarge},
		{[]byte{9, 254, 0, 0, 0, 0, 0, 0, 0, 0}, api.ErrLarge},
		{append([]byte{128, 128, 1}, content(127)...), api.ErrLarge},
		{append([]byte{191, 255, 1}, content(16382)...), api.ErrLarge},
	}...) {
		x.check(t, func(b []byte, pos int, aligned bool) (int, api.Errno) { return checkGetAny(t, b, pos, aligned) })
	}
}

// P5.1, P5.2: bits that end at each octet of an integer.
func TestNumbersShort(t *testing.T) {
	for _, n := range []int{0, 5, 127, 255, 256, 65536, 1 << 40, math.MaxInt} {
		for pos := range 17 {
			for _, aligned := range both {
				w, x := writer(pos), writer(pos)
				open.PutSemi(w, aligned, n, 0)
				open.PutAny(x, aligned, -n)
				for kept := (pos + 7) / 8; 8*kept < w.Len(); kept++ {
					if got, e := checkGetSemi(t, w.Bytes()[:kept], pos, aligned, 0); got != 0 || e != api.ErrShort {
						t.Fatal(n, pos, aligned, kept, got, e)
					}
				}
				for kept := (pos + 7) / 8; 8*kept < x.Len(); kept++ {
					if got, e := checkGetAny(t, x.Bytes()[:kept], pos, aligned); got != 0 || e != api.ErrShort {
						t.Fatal(n, pos, aligned, kept, got, e)
					}
				}
			}
		}
	}
}

// P5.1, P5.2: padding that is not zero, at each of its bits, ahead of all that is
// read behind it.
func TestNumbersPadding(t *testing.T) {
	for pos := 1; pos < 16; pos++ {
		ones, zeros := strings.Repeat("1", pos), padded(pos, true)
		for i := range len(zeros) {
			for _, more := range []string{"", "0000000100000101", "00000000", "00000001", "11000001"} {
				b := packed(ones + zeros[:i] + "1" + zeros[i+1:] + more)
				if n, e := checkGetSemi(t, b, pos, true, 1); n != 0 || e != api.ErrForm {
					t.Fatal(pos, i, more, n, e)
				}
				if n, e := checkGetAny(t, b, pos, true); n != 0 || e != api.ErrForm {
					t.Fatal(pos, i, more, n, e)
				}
			}
		}
	}
}

// P5.1, P5.2: all short octets, and random ones of which there are many, are
// refused, or are the integer that they are.
func TestNumbersArbitrary(t *testing.T) {
	for v := range 1 << 16 {
		high, low := byte(v>>8), byte(v)
		pos := v % 17
		checkGetSemi(t, []byte{high, low}, v%9, v%3 > 0, v-1<<15)
		checkGetAny(t, []byte{high, low}, v%9, v%3 > 0)
		checkGetSemi(t, []byte{1, 2, high, low}, pos, v%3 > 0, v-1<<15)
		checkGetAny(t, []byte{1, 2, high, low}, pos, v%3 > 0)
	}
	from, list := rand.New(rand.NewSource(8)), bounds()
	for range 100000 {
		b := make([]byte, 12)
		for i := range b {
			b[i] = byte(from.Int()) | byte(from.Int()>>from.Intn(8))
		}
		pos := from.Intn(3) * 8
		b[pos/8] = byte(from.Intn(11))
		aligned := from.Intn(2) > 0
		checkGetSemi(t, b, pos, aligned, list[from.Intn(len(list))])
		checkGetAny(t, b, pos, aligned)
	}
}
