package bounds_test

import (
	"slices"
	"testing"

	"spandrel/api"
	"spandrel/bounds"
)

// sized are the kinds whose sizes have a set, and plain all kinds, and numbers
// that are none, that have none.
var (
	sized = []int{api.Bits, api.Octets, api.Str, api.SeqOf}
	plain = []int{api.Bool, api.Enum, api.Null, api.Seq, api.Choice, api.Ref, 0, -1, -2, 12, 13, 1 << 32, 1<<32 + 2, least, most}
)

// P12.2: the sizes, of which each caller has a list of its own.
func TestSize(t *testing.T) {
	for range 3 {
		got := bounds.Size()
		if !slices.Equal(got, []api.Range{{Lo: 0, Hi: 1<<63 - 1}}) {
			t.Fatal(got)
		}
		spoil(got)
	}
	for range 2 {
		got, is := bounds.Of(api.Type{Kind: api.Octets})
		if !slices.Equal(got, set(0, most)) || !is {
			t.Fatal(got, is)
		}
		spoil(got)
		got, is = bounds.Of(api.Type{Kind: api.Int})
		if !slices.Equal(got, set(least, most)) || !is {
			t.Fatal(got, is)
		}
		spoil(got)
	}
}

// P12.2: each row in a type of each Kind, and of numbers that are none.
func TestOf(t *testing.T) {
	empty := api.Type{Kind: api.Int, Con: span(5, 4)}
	for _, x := range rows() {
		for _, more := range []api.Type{
			{},
			// Of these nothing matters.
			{Ext: true},
			{Name: "A", Ext: true, From: "ab", Names: []string{"a"}, More: []string{"b"}, Parts: []api.Part{{T: empty}}, Adds: []api.Part{{T: empty, Opt: true}}, Elem: []api.Type{empty, empty}},
		} {
			y := more
			y.Con = x.c
			y.Kind = api.Int
			holdOf(t, y, x.all, true)
			for _, y.Kind = range sized {
				holdOf(t, y, x.sizes, true)
			}
			for _, y.Kind = range plain {
				holdOf(t, y, nil, false)
			}
		}
	}
}

// P12.2: constraints of sizes below 0.
func TestSizesBelow(t *testing.T) {
	for _, kind := range sized {
		for _, x := range []struct {
			c    api.Con
			want []api.Range
		}{
			{span(-5, -1), nil}, {one(-1), nil}, {upTo(-1), nil}, {upTo(least), nil}, {span(least, -1), nil}, {one(least), nil},
			{span(-5, 0), set(0, 0)}, {span(-5, 5), set(0, 5)}, {upFrom(-5), set(0, most)}, {upFrom(least), set(0, most)},
			{union(one(-1), one(1), span(-9, -5)), set(1, 1)}, {union(one(-1), span(-9, -5)), nil}, {meet(span(-5, 5), upTo(-1)), nil},
			{except(span(-5, 5), upFrom(0)), nil}, {except(span(-5, 5), upTo(-1)), set(0, 5)}, {except(upFrom(-1), one(-1)), set(0, most)}, {except(api.Con{}, upFrom(-1)), nil},
		} {
			holdOf(t, api.Type{Kind: kind, Con: x.c}, x.want, true)
		}
	}
}

// P12.3: of no range, of one, of many, normalized and not.
func TestEnds(t *testing.T) {
	for _, x := range []struct {
		s      []api.Range
		lo, hi int
		is     bool
	}{
		// The chapter's example.
		{set(1, 2, 5, 9), 1, 9, true},
		// None.
		{nil, 0, 0, false},
		{[]api.Range{}, 0, 0, false},
		{set(5, 4), 0, 0, false},
		{set(most, least), 0, 0, false},
		{set(5, 4, 9, 8, 0, -1), 0, 0, false},
		// One.
		{set(5, 5), 5, 5, true},
		{set(0, 0), 0, 0, true},
		{set(3, 7), 3, 7, true},
		{set(-7, -3), -7, -3, true},
		{set(-7, 3), -7, 3, true},
		{set(least, most), least, most, true},
		{set(0, most), 0, most, true},
		{set(least, -1), least, -1, true},
		{set(least, least), least, least, true},
		{set(most, most), most, most, true},
		// Many.
		{set(1, 2, 4, 4, 6, 20), 1, 20, true},
		{set(-9, -9, -7, -7, -5, -5), -9, -5, true},
		{set(least, least, most, most), least, most, true},
		{set(least, -5, 5, 7), least, 7, true},
		{set(-7, -5, 5, most), -7, most, true},
		// Not normalized.
		{set(5, 9, 1, 2), 1, 9, true},
		{set(1, 9, 2, 3), 1, 9, true},
		{set(2, 3, 1, 9, 4, 5), 1, 9, true},
		{set(1, 3, 4, 6), 1, 6, true},
		{set(5, 5, 5, 5), 5, 5, true},
		{set(most, most, 0, 0, least, least), least, most, true},
		{set(4, 20, 0, 6, 2, 3), 0, 20, true},
		// Ranges without integers have no ends.
		{set(9, 0, 3, 5, 8, -8), 3, 5, true},
		{set(most, least, 3, 4), 3, 4, true},
		{set(3, 4, most, least), 3, 4, true},
		{set(1, 0, 3, 4, 6, 5), 3, 4, true},
		{set(-5, -6, 0, 0, 5, 4), 0, 0, true},
		{set(0, -1, -9, -8, 1, 0), -9, -8, true},
	} {
		s := guardedSet(x.s)
		for range 2 {
			if lo, hi, is := bounds.Ends(s); lo != x.lo || hi != x.hi || is != x.is {
				t.Errorf("%s has the ends %d, %d, %v, not %d, %d, %v", shown(x.s), lo, hi, is, x.lo, x.hi, x.is)
			}
			if !isIntactSet(s, x.s) {
				t.Errorf("%s has become %s", shown(x.s), shown(s))
			}
		}
	}
}

// P12.1 to P12.3: the ends of what is admitted.
func TestEndsOfSets(t *testing.T) {
	for _, x := range rows() {
		for _, parent := range parents() {
			s := modelSet(x.c, parent)
			lo, hi, is := bounds.Ends(bounds.Set(x.c, parent))
			if is != (len(s) > 0) {
				t.Fatalf("%s, %s: %v", shown(x.c), shown(parent), is)
			}
			if is && (lo != s[0].Lo || hi != s[len(s)-1].Hi) || !is && (lo != 0 || hi != 0) {
				t.Fatalf("%s, %s: %d, %d", shown(x.c), shown(parent), lo, hi)
			}
		}
	}
}
