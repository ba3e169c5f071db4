package length_test

import (
	"math"
	"math/rand"
	"strings"
	"testing"

	"spandrel/api"
	"spandrel/length"
)

// checkPutSmall holds PutSmall against P4.3, behind pos bits of a Writer; and
// GetSmall against P4.4, whatever follows.
func checkPutSmall(t *testing.T, pos int, aligned bool, n int) {
	t.Helper()
	w, want, s := writer(pos), api.ErrArg, ""
	if n >= 0 {
		want, s = api.OK, smallWritten(pos, aligned, n)
	}
	if e := length.PutSmall(w, aligned, n); e != want {
		t.Fatal(n, pos, aligned, e)
	}
	checkHolds(t, w, strings.Repeat("1", pos)+s)
	if n < 0 {
		return
	}
	w.Put(math.MaxUint64, 64)
	r := at(w.Bytes(), pos)
	if got, e := length.GetSmall(r, aligned); got != n || e != api.OK || r.Pos() != pos+len(s) {
		t.Fatal(n, pos, aligned, got, e, r.Pos(), pos+len(s))
	}
}

// P4.3, P4.4: numbers about each edge, at each place in an octet, in both
// variants; and those that are below 0.
func TestSmall(t *testing.T) {
	for _, n := range append(lengths(), 62, 63, 64, 65, -1, -2, -63, -64, -65, -256, math.MinInt, math.MinInt+1) {
		for pos := range 17 {
			for _, aligned := range both {
				checkPutSmall(t, pos, aligned, n)
			}
		}
	}
}

// P4.3, P4.4: all numbers of which there are few.
func TestSmallAll(t *testing.T) {
	for n := range 70000 {
		checkPutSmall(t, n%9, n%2 == 0, n)
	}
}

// P4.3: a nil Writer, and a nil Reader.
func TestSmallNil(t *testing.T) {
	for _, aligned := range both {
		for _, n := range append(lengths(), -1, math.MinInt) {
			if e := length.PutSmall(nil, aligned, n); e != api.ErrArg {
				t.Fatal(n, aligned, e)
			}
		}
		if n, e := length.GetSmall(nil, aligned); n != 0 || e != api.ErrArg {
			t.Fatal(aligned, n, e)
		}
	}
}

// P4.3: digits behind the bits 111, spelled out by hand; a dash stands for the
// zeros of an Align.
func TestSmallRows(t *testing.T) {
	o, z := strings.Repeat("1", 8), strings.Repeat("0", 8)
	for _, x := range []struct {
		n int
		s string
	}{
		{3, "0000011"},
		{64, "1-0000000101000000"},
		{0, "0000000"},
		{1, "0000001"},
		{63, "0111111"},
		{65, "1-0000000101000001"},
		{255, "1-00000001" + o},
		{256, "1-0000001000000001" + z},
		{65535, "1-00000010" + o + o},
		{65536, "1-0000001100000001" + z + z},
		{math.MaxInt, "1-0000100001111111" + strings.Repeat(o, 7)},
	} {
		for _, aligned := range both {
			zeros := ""
			if aligned {
				zeros = "0000"
			}
			want := "111" + strings.Replace(x.s, "-", zeros, 1)
			w := writer(3)
			if e := length.PutSmall(w, aligned, x.n); e != api.OK {
				t.Fatal(x, aligned, e)
			}
			checkHolds(t, w, want)
			r := at(packed(want), 3)
			if n, e := length.GetSmall(r, aligned); n != x.n || e != api.OK || r.Pos() != len(want) {
				t.Fatal(x, aligned, n, e, r.Pos())
			}
		}
	}
}

// P4.3: the first error that occurs in digits that begin an octet, with 0 beside
// it; and their neighbours that are right. A dash stands for an Align.
func TestGetSmallFaults(t *testing.T) {
	o, z := strings.Repeat("1", 8), strings.Repeat("0", 8)
	for _, x := range []struct {
		s string
		e api.Errno
	}{
		// Bits that end too early.
		{"", api.ErrShort},
		{"1-", api.ErrShort},
		{"1-10000000", api.ErrShort},
		{"1-00000001", api.ErrShort},
		{"1-00000010" + o, api.ErrShort},
		{"1-00000010" + z, api.ErrShort},
		{"1-00001000" + strings.Repeat(o, 7), api.ErrShort},
		{"1-01111111" + o, api.ErrShort},
		{"1-10111111" + o, api.ErrShort},
		// Lengths that nobody writes, and fragments.
		{"1-1000000000000001" + o, api.ErrForm},
		{"1-11000000", api.ErrForm},
		{"1-11000101", api.ErrForm},
		{"1-11000001", api.ErrForm},
		{"1-11000001" + strings.Repeat(z, 16384), api.ErrForm},
		{"1-11000001" + strings.Repeat(o, 16384), api.ErrForm},
		{"1-11000100" + o, api.ErrForm},
		// No octets, and octets that are not minimal.
		{"1-00000000", api.ErrForm},
		{"1-00000000" + o, api.ErrForm},
		{"1-00000010" + z + o, api.ErrForm},
		{"1-00000010" + z + "01000000", api.ErrForm},
		{"1-00000010" + z + z, api.ErrForm},
		{"1-00001001" + z + strings.Repeat(o, 8), api.ErrForm},
		{"1-1000000010000000" + z + strings.Repeat(o, 127), api.ErrForm},
		// Integers less than 64.
		{"1-00000001" + z, api.ErrForm},
		{"1-0000000100000001", api.ErrForm},
		{"1-0000000100111111", api.ErrForm},
		{"1-0000000101000000", api.OK},
		// Integers that are too great, and octets that are too many.
		{"1-0000100001111111" + strings.Repeat(o, 7), api.OK},
		{"1-0000100010000000" + strings.Repeat(z, 7), api.ErrLarge},
		{"1-00001000" + strings.Repeat(o, 8), api.ErrLarge},
		{"1-0000100100000001" + strings.Repeat(z, 8), api.ErrLarge},
		{"1-01111111" + strings.Repeat(o, 127), api.ErrLarge},
		{"1-1000000010000000" + strings.Repeat(o, 128), api.ErrLarge},
	} {
		for _, aligned := range both {
			// Bits behind the last octet would be zeros: keep whole octets alone.
			pos, s := 0, strings.Replace(x.s, "-", "0000000", 1)
			if !aligned && x.s != "" {
				pos, s = 7, "1111111"+strings.Replace(x.s, "-", "", 1)
			}
			n, e := checkGetSmall(t, packed(s), pos, aligned)
			if e != x.e || e != api.OK && n != 0 {
				t.Errorf("%.40s of %d digits, aligned %v: %d with error %d, not %d", x.s, len(x.s), aligned, n, e, x.e)
			}
		}
	}
}

// P4.3: bits that end at each place in a number, be it small or not.
func TestGetSmallShort(t *testing.T) {
	for _, n := range []int{0, 3, 63, 64, 255, 256, 65536, math.MaxInt} {
		for pos := range 17 {
			for _, aligned := range both {
				w := writer(pos)
				length.PutSmall(w, aligned, n)
				for kept := (pos + 7) / 8; 8*kept < w.Len(); kept++ {
					if got, e := checkGetSmall(t, w.Bytes()[:kept], pos, aligned); got != 0 || e != api.ErrShort {
						t.Fatal(n, pos, aligned, kept, got, e)
					}
				}
			}
		}
	}
}

// P4.3: padding that is not zero, at each of its bits; a number less than 64 has
// none.
func TestGetSmallPadding(t *testing.T) {
	for pos := range 16 {
		head := strings.Repeat("1", pos)
		zeros := padded(pos+1, true)
		for i := range len(zeros) {
			s := head + "1" + zeros[:i] + "1" + zeros[i+1:]
			for _, more := range []string{"", "0000000101000000", "11000001"} {
				if n, e := checkGetSmall(t, packed(s+more), pos, true); n != 0 || e != api.ErrForm {
					t.Fatal(pos, s, more, n, e)
				}
			}
		}
		r := at(packed(head+"0101010"+"1111111"), pos)
		if n, e := length.GetSmall(r, true); n != 42 || e != api.OK || r.Pos() != pos+7 {
			t.Fatal(pos, n, e, r.Pos())
		}
	}
}

// checkOnlySmall holds GetSmall against P4.3, and that a number that was read
// has no other bits than those that were read.
func checkOnlySmall(t *testing.T, b []byte, pos int, aligned bool) {
	t.Helper()
	n, e := checkGetSmall(t, b, pos, aligned)
	if e != api.OK {
		return
	}
	if want := smallWritten(pos, aligned, n); !strings.HasPrefix(digits(b)[pos:], want) {
		t.Fatal(b, pos, aligned, n, want)
	}
}

// P4.3: all octets of which there are few, and random ones of which there are
// many, are refused, or are the number that they are.
func TestGetSmallAny(t *testing.T) {
	for v := range 1 << 16 {
		b := []byte{byte(v >> 8), byte(v)}
		checkOnlySmall(t, b, v%17, v%3 > 0)
		checkOnlySmall(t, append([]byte{128}, b...), 0, true)
		checkOnlySmall(t, append([]byte{1}, b...), 7, false)
	}
	from := rand.New(rand.NewSource(7))
	for range 50000 {
		b := make([]byte, 12)
		for i := range b {
			b[i] = byte(from.Int()) & byte(from.Int()>>from.Intn(8))
		}
		b[0], b[1] = 1, byte(from.Intn(11))
		checkOnlySmall(t, b, 7, from.Intn(2) > 0)
	}
}
