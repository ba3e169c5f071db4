package spans_test

import (
	"encoding/binary"
	"math"
	"math/rand"
	"slices"
	"testing"

	"spandrel/api"
	"spandrel/spans"
)

// maker makes lists by a choice of numbers below a bound.
type maker struct {
	below func(bound int) int
}

// end is an integer: near the least one, 0, or the greatest one.
func (m maker) end(width int) int {
	n := m.below(width)
	switch m.below(8) {
	case 0:
		return math.MinInt + n
	case 1:
		return math.MaxInt - n
	}
	return n - width/2
}

// list is some ranges; few of them are empty.
func (m maker) list(most, width int) []api.Range {
	var l []api.Range
	for range m.below(most + 1) {
		r := api.Range{Lo: m.end(width), Hi: m.end(width)}
		if m.below(3) == 0 {
			r.Hi = r.Lo
		}
		if r.Lo > r.Hi && m.below(8) > 0 {
			r.Lo, r.Hi = r.Hi, r.Lo
		}
		if r.Lo < 0 && r.Hi > width && m.below(4) > 0 {
			r.Hi = r.Lo
		}
		l = append(l, r)
	}
	return l
}

// P11.1 to P11.3: any lists.
func TestAny(t *testing.T) {
	from := rand.New(rand.NewSource(11))
	m := maker{from.Intn}
	counts := map[int]int{}
	for range 30000 {
		most, width := 1+from.Intn(20), 1+from.Intn(100)
		a, b := m.list(most, width), m.list(most, width)
		holdOne(t, a)
		holdTwo(t, a, b)
		counts[min(len(spans.Minus(a, b)), 5)]++
	}
	for k := range 6 {
		if counts[k] < 300 {
			t.Error(counts)
		}
	}
}

// P11.3: sets of the same integers are equal as soon as they are normalized, in
// whatever order, pieces and numbers their ranges are given.
func TestSameIntegers(t *testing.T) {
	from := rand.New(rand.NewSource(12))
	m := maker{from.Intn}
	for range 3000 {
		s := m.list(10, 50)
		want := spans.Norm(s)
		l := slices.Concat(halves(s), halves(want), s)
		from.Shuffle(len(l), func(i, j int) { l[i], l[j] = l[j], l[i] })
		for _, x := range [][]api.Range{l, amongEmpty(l), halves(halves(halves(want))), spans.Norm(want)} {
			if got := spans.Norm(x); !slices.Equal(got, want) {
				t.Fatalf("%s is %s, not %s", shown(x), shown(got), shown(want))
			}
			if got := spans.Union(x, s); !slices.Equal(got, want) {
				t.Fatalf("%s with %s is %s, not %s", shown(x), shown(s), shown(got), shown(want))
			}
			if got := spans.Meet(x, s); !slices.Equal(got, want) {
				t.Fatalf("%s that %s has are %s, not %s", shown(x), shown(s), shown(got), shown(want))
			}
			if got := spans.Minus(x, s); len(got) > 0 {
				t.Fatalf("%s without %s is %s", shown(x), shown(s), shown(got))
			}
		}
	}
}

// steps are as many ranges as count says, of some integers each, the first of
// which are one step after the other.
func steps(count, first, step, size int) []api.Range {
	var l []api.Range
	for k := range count {
		l = append(l, api.Range{Lo: first + k*step, Hi: first + k*step + size - 1})
	}
	return l
}

// R1: long lists, in order and in none, take no more time than sorting them.
func TestLong(t *testing.T) {
	const count = 200000
	from := rand.New(rand.NewSource(13))
	even, odd, twos := steps(count, 0, 2, 1), steps(count, 1, 2, 1), steps(count/2, 0, 4, 2)
	all := []api.Range{{Lo: 0, Hi: 2*count - 1}}
	for _, order := range []func(l []api.Range){
		func(l []api.Range) {},
		slices.Reverse[[]api.Range],
		func(l []api.Range) { from.Shuffle(len(l), func(i, j int) { l[i], l[j] = l[j], l[i] }) },
	} {
		a, b, c := slices.Clone(even), slices.Clone(odd), slices.Clone(twos)
		order(a)
		order(b)
		order(c)
		for k, x := range []struct{ got, want []api.Range }{
			{spans.Norm(a), even},
			{spans.Norm(slices.Concat(a, b)), all},
			{spans.Norm(slices.Repeat(c, 3)), twos},
			{spans.Union(a, b), all},
			{spans.Union(a, c), steps(count/2, 0, 4, 3)},
			{spans.Meet(a, b), nil},
			{spans.Meet(a, c), steps(count/2, 0, 4, 1)},
			{spans.Minus(a, b), even},
			{spans.Minus(all, b), even},
			{spans.Minus(c, a), steps(count/2, 1, 4, 1)},
			{spans.Minus(a, spans.Minus(a, c)), steps(count/2, 0, 4, 1)},
		} {
			if !slices.Equal(x.got, x.want) {
				t.Errorf("%d: %s, not %s", k, shown(x.got), shown(x.want))
			}
		}
		if spans.Has(a, 2*count) || !spans.Has(a, 2*count-2) || !spans.Right(even) || spans.Right(slices.Concat(even, odd)) {
			t.Error("Has or Right")
		}
	}
}

// FuzzSpans: any lists.
func FuzzSpans(f *testing.F) {
	from := rand.New(rand.NewSource(14))
	for range 50 {
		b := make([]byte, from.Intn(200))
		from.Read(b)
		f.Add(b, b)
	}
	read := func(b []byte) []api.Range {
		var l []api.Range
		for len(b) > 1 {
			var ends [2]int
			for k := range ends {
				if len(b) > 8 && b[0] > 250 {
					ends[k], b = int(binary.LittleEndian.Uint64(b[1:])), b[9:]
				} else if len(b) > 0 {
					// An octet is near an end of the integers, or near 0.
					ends[k], b = int(uint64(b[0]>>6)<<62+uint64(int64(b[0]&63))-32), b[1:]
				}
			}
			l = append(l, api.Range{Lo: ends[0], Hi: ends[1]})
		}
		return l
	}
	f.Fuzz(func(t *testing.T, first, second []byte) {
		a, b := read(first), read(second)
		holdOne(t, a)
		holdOne(t, b)
		holdTwo(t, a, b)
		holdTwo(t, b, a)
		holdTwo(t, a, a)
	})
}
