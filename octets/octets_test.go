package octets_test

import (
	"bytes"
	"math"
	"math/big"
	"math/rand"
	"slices"
	"testing"

	"spandrel/api"
	"spandrel/octets"
)

// numbers is integers without a sign: all small ones, both sides of each power
// of 2, the greatest ones, and random ones of each width.
func numbers() []uint64 {
	var list []uint64
	for v := range uint64(70000) {
		list = append(list, v, math.MaxUint64-v)
	}
	for i := range 64 {
		p := uint64(1) << i
		list = append(list, p-2, p-1, p, p+1, p+p/2, p+p/3, -p, -p-1)
	}
	from := rand.New(rand.NewSource(2))
	for i := range 64 * 50 {
		list = append(list, from.Uint64()>>(i%64))
	}
	return list
}

// natural is v as a number of any size.
func natural(v uint64) *big.Int {
	return new(big.Int).SetUint64(v)
}

// power is 2 to the i.
func power(i int) *big.Int {
	return new(big.Int).Lsh(big.NewInt(1), uint(i))
}

// complement is the number that octets are in two's complement, of any size.
func complement(b []byte) *big.Int {
	v := new(big.Int).SetBytes(b)
	if len(b) > 0 && b[0] >= 128 {
		v.Sub(v, power(8*len(b)))
	}
	return v
}

// fewest is the least number of octets that hold n in two's complement.
func fewest(n int) int {
	v := big.NewInt(int64(n))
	for i := 1; ; i++ {
		half := power(8*i - 1)
		if v.Cmp(half) < 0 && v.Cmp(new(big.Int).Neg(half)) >= 0 {
			return i
		}
	}
}

// P2.1: Width is the least number of bits below whose power of 2 a number is.
func TestWidth(t *testing.T) {
	for _, v := range numbers() {
		w := octets.Width(v)
		if w < 0 || natural(v).Cmp(power(w)) >= 0 || w > 0 && natural(v).Cmp(power(w-1)) < 0 {
			t.Fatal(v, w)
		}
	}
	for _, x := range []struct {
		v uint64
		w int
	}{{0, 0}, {1, 1}, {2, 2}, {3, 2}, {4, 3}, {255, 8}, {256, 9}, {math.MaxInt64, 63}, {1 << 63, 64}, {math.MaxUint64, 64}} {
		if w := octets.Width(x.v); w != x.w {
			t.Error(x, w)
		}
	}
}

// P2.1: Count is the least number of octets, of which there is at least one.
func TestCount(t *testing.T) {
	for _, v := range numbers() {
		c := octets.Count(v)
		if c < 1 || natural(v).Cmp(power(8*c)) >= 0 || c > 1 && natural(v).Cmp(power(8*(c-1))) < 0 {
			t.Fatal(v, c)
		}
	}
	if c := octets.Count(0); c != 1 {
		t.Error(c)
	}
	if c := octets.Count(math.MaxUint64); c != 8 {
		t.Error(c)
	}
}

// P2.1, P2.2: the least and the greatest number of each count of octets.
func TestUnsignedEdges(t *testing.T) {
	for count := 1; count <= 8; count++ {
		least := append([]byte{1}, make([]byte, count-1)...)
		greatest := bytes.Repeat([]byte{255}, count)
		low, high := uint64(1)<<(8*(count-1)), uint64(math.MaxUint64)>>(64-8*count)
		if octets.Count(low) != count || octets.Count(high) != count {
			t.Error(count, octets.Count(low), octets.Count(high))
		}
		if b := octets.Unsigned(low); !bytes.Equal(b, least) {
			t.Error(count, b)
		}
		if b := octets.Unsigned(high); !bytes.Equal(b, greatest) {
			t.Error(count, b)
		}
	}
	if b := octets.Unsigned(0); !bytes.Equal(b, []byte{0}) {
		t.Error(b)
	}
	if b := octets.Unsigned(256); !bytes.Equal(b, []byte{1, 0}) {
		t.Error(b)
	}
}

// P2.2: Unsigned is Count octets whose number is the one that was given.
func TestUnsigned(t *testing.T) {
	for _, v := range numbers() {
		b := octets.Unsigned(v)
		if len(b) != octets.Count(v) || new(big.Int).SetBytes(b).Cmp(natural(v)) != 0 {
			t.Fatal(v, b)
		}
	}
	if b := octets.Unsigned(0x0102030405060708); !bytes.Equal(b, []byte{1, 2, 3, 4, 5, 6, 7, 8}) {
		t.Error(b)
	}
}

// P2.2: Signed is the fewest octets whose number is the one that was given.
func TestSigned(t *testing.T) {
	for _, v := range numbers() {
		n := int(v)
		b := octets.Signed(n)
		if len(b) != fewest(n) || complement(b).Cmp(big.NewInt(int64(n))) != 0 {
			t.Fatal(n, b)
		}
	}
}

// P2.2, P2.3: the integers that the chapter names, and the ends of each count
// of octets.
func TestSignedEdges(t *testing.T) {
	for _, x := range []struct {
		n int
		b []byte
	}{
		{0, []byte{0}}, {1, []byte{1}}, {-1, []byte{255}}, {-2, []byte{254}},
		{127, []byte{127}}, {128, []byte{0, 128}}, {-128, []byte{128}}, {-129, []byte{255, 127}},
		{255, []byte{0, 255}}, {256, []byte{1, 0}}, {-256, []byte{255, 0}}, {-257, []byte{254, 255}},
	} {
		checkSigned(t, x.n, x.b)
	}
	for count := 1; count <= 8; count++ {
		greatest := append([]byte{127}, bytes.Repeat([]byte{255}, count-1)...)
		least := append([]byte{128}, make([]byte, count-1)...)
		high := math.MaxInt >> (64 - 8*count)
		checkSigned(t, high, greatest)
		checkSigned(t, -high-1, least)
		if count < 8 {
			checkSigned(t, high+1, append([]byte{0}, least...))
			checkSigned(t, -high-2, append([]byte{255}, greatest...))
		}
	}
	checkSigned(t, math.MaxInt, []byte{127, 255, 255, 255, 255, 255, 255, 255})
	checkSigned(t, math.MinInt, []byte{128, 0, 0, 0, 0, 0, 0, 0})
}

// checkSigned holds an integer against its octets, in both directions.
func checkSigned(t *testing.T, n int, b []byte) {
	t.Helper()
	if got := octets.Signed(n); !bytes.Equal(got, b) {
		t.Errorf("Signed(%d) is %v, not %v", n, got, b)
	}
	if got, e := octets.FromSigned(b); got != n || e != api.OK {
		t.Errorf("FromSigned(%v) is %d with error %d, not %d", b, got, e, n)
	}
}

// P2.4: decoding the encoding of an integer returns the integer.
func TestRoundTrip(t *testing.T) {
	for _, v := range numbers() {
		if got, e := octets.FromUnsigned(octets.Unsigned(v)); got != v || e != api.OK {
			t.Fatal(v, got, e)
		}
		if got, e := octets.FromSigned(octets.Signed(int(v))); got != int(v) || e != api.OK {
			t.Fatal(int(v), got, e)
		}
	}
}

// P2.4: a smaller unsigned integer does not have a longer encoding.
func TestUnsignedGrows(t *testing.T) {
	list := numbers()
	slices.Sort(list)
	before := 0
	for _, v := range list {
		size := len(octets.Unsigned(v))
		if size < before {
			t.Fatal(v, size, before)
		}
		before = size
	}
}

// refused is the error that P2.3 asks for, by its words: form before size.
func refused(b []byte, minimal bool) api.Errno {
	switch {
	case len(b) == 0 || !minimal:
		return api.ErrForm
	case len(b) > 8:
		return api.ErrLarge
	}
	return api.OK
}

// sameNine tells whether all of the first nine bits are equal.
func sameNine(b []byte) bool {
	if len(b) < 2 {
		return false
	}
	nine := int(b[0])<<1 | int(b[1])>>7
	return nine == 0 || nine == 511
}

// checkFrom holds both decoders against P2.3 and P2.4 for some octets.
func checkFrom(t *testing.T, b []byte) {
	t.Helper()
	want := refused(b, !(len(b) > 1 && b[0] == 0))
	v, e := octets.FromUnsigned(b)
	if e != want || e != api.OK && v != 0 {
		t.Fatalf("FromUnsigned(%v) is %d with error %d, not %d", b, v, e, want)
	}
	if e == api.OK && (natural(v).Cmp(new(big.Int).SetBytes(b)) != 0 || !bytes.Equal(octets.Unsigned(v), b)) {
		t.Fatalf("FromUnsigned(%v) is %d", b, v)
	}
	want = refused(b, !sameNine(b))
	n, e := octets.FromSigned(b)
	if e != want || e != api.OK && n != 0 {
		t.Fatalf("FromSigned(%v) is %d with error %d, not %d", b, n, e, want)
	}
	if e == api.OK && (complement(b).Cmp(big.NewInt(int64(n))) != 0 || !bytes.Equal(octets.Signed(n), b)) {
		t.Fatalf("FromSigned(%v) is %d", b, n)
	}
}

// P2.3, P2.4: each first two octets, alone and with others behind them, among
// them more than there may be.
func TestFrom(t *testing.T) {
	checkFrom(t, nil)
	checkFrom(t, []byte{})
	for first := range 256 {
		checkFrom(t, []byte{byte(first)})
		for second := range 256 {
			for _, more := range []int{0, 1, 5, 6, 7, 8} {
				for _, o := range []byte{0, 1, 127, 128, 255} {
					checkFrom(t, append([]byte{byte(first), byte(second)}, bytes.Repeat([]byte{o}, more)...))
				}
			}
		}
	}
}

// wrong is octets with the error that each decoder answers.
var wrong = []struct {
	b                []byte
	unsigned, signed api.Errno
}{
	{nil, api.ErrForm, api.ErrForm},
	{[]byte{}, api.ErrForm, api.ErrForm},
	{[]byte{0, 0}, api.ErrForm, api.ErrForm},
	{[]byte{0, 1}, api.ErrForm, api.ErrForm},
	{[]byte{0, 127}, api.ErrForm, api.ErrForm},
	{[]byte{0, 128}, api.ErrForm, api.OK},
	{[]byte{0, 255}, api.ErrForm, api.OK},
	{[]byte{255, 127}, api.OK, api.OK},
	{[]byte{255, 128}, api.OK, api.ErrForm},
	{[]byte{255, 255}, api.OK, api.ErrForm},
	{[]byte{0, 0, 0, 0, 0, 0, 0, 0}, api.ErrForm, api.ErrForm},
	{[]byte{0, 128, 0, 0, 0, 0, 0, 0}, api.ErrForm, api.OK},
	{[]byte{255, 255, 255, 255, 255, 255, 255, 255}, api.OK, api.ErrForm},
	{[]byte{1, 0, 0, 0, 0, 0, 0, 0, 0}, api.ErrLarge, api.ErrLarge},
	{[]byte{127, 255, 255, 255, 255, 255, 255, 255, 255}, api.ErrLarge, api.ErrLarge},
	{[]byte{128, 0, 0, 0, 0, 0, 0, 0, 0}, api.ErrLarge, api.ErrLarge},
	{[]byte{255, 127, 0, 0, 0, 0, 0, 0, 0}, api.ErrLarge, api.ErrLarge},
	{[]byte{255, 128, 0, 0, 0, 0, 0, 0, 0}, api.ErrLarge, api.ErrForm},
	{[]byte{0, 128, 0, 0, 0, 0, 0, 0, 0}, api.ErrForm, api.ErrLarge},
	{[]byte{0, 127, 0, 0, 0, 0, 0, 0, 0}, api.ErrForm, api.ErrForm},
	{[]byte{0, 1, 2, 3, 4, 5, 6, 7, 8, 9}, api.ErrForm, api.ErrForm},
	{bytes.Repeat([]byte{1}, 100000), api.ErrLarge, api.ErrLarge},
	{make([]byte, 100000), api.ErrForm, api.ErrForm},
	{bytes.Repeat([]byte{255}, 100000), api.ErrLarge, api.ErrForm},
}

// P2.3: no octets, octets that are not minimal, too many of them, and both
// faults at once, of which the first one counts.
func TestFromWrong(t *testing.T) {
	for _, x := range wrong {
		if v, e := octets.FromUnsigned(x.b); e != x.unsigned || e != api.OK && v != 0 {
			t.Errorf("FromUnsigned of %d octets that begin with %v is %d with error %d, not %d", len(x.b), x.b[:min(3, len(x.b))], v, e, x.unsigned)
		}
		if n, e := octets.FromSigned(x.b); e != x.signed || e != api.OK && n != 0 {
			t.Errorf("FromSigned of %d octets that begin with %v is %d with error %d, not %d", len(x.b), x.b[:min(3, len(x.b))], n, e, x.signed)
		}
	}
}

// R3: results are new each time, and arguments stay as they are.
func TestShares(t *testing.T) {
	for _, call := range []func() []byte{
		func() []byte { return octets.Unsigned(0) },
		func() []byte { return octets.Unsigned(70000) },
		func() []byte { return octets.Signed(-70000) },
		func() []byte { return octets.Signed(math.MinInt) },
	} {
		first, second := call(), call()
		want := bytes.Clone(second)
		for i := range first[:cap(first)] {
			first[:cap(first)][i] = 77
		}
		if !bytes.Equal(second, want) || !bytes.Equal(call(), want) {
			t.Error(first, second, want)
		}
	}
	b := []byte{255, 1, 2, 3}
	octets.FromUnsigned(b[:3])
	octets.FromSigned(b[:3])
	if !bytes.Equal(b, []byte{255, 1, 2, 3}) {
		t.Error(b)
	}
}

// P1, P2.3, P2.4: whatever octets there are, they are refused, or are the
// encoding of the integer.
func FuzzFrom(f *testing.F) {
	f.Add([]byte{})
	f.Add([]byte{0})
	f.Add([]byte{0, 1})
	f.Add([]byte{0, 128})
	f.Add([]byte{255, 127})
	f.Add([]byte{128, 0, 0, 0, 0, 0, 0, 0})
	f.Add([]byte{1, 2, 3, 4, 5, 6, 7, 8, 9})
	f.Add([]byte{0, 0, 0, 0, 0, 0, 0, 0, 0})
	f.Fuzz(func(t *testing.T, b []byte) {
		checkFrom(t, b)
	})
}
