package tags_test

import (
	"math"
	"slices"
	"strconv"
	"testing"

	"spandrel/api"
	"spandrel/tags"
)

// place puts a type into another one of this Kind.
type place struct {
	name string
	put  func(kind int, x api.Type) api.Type
}

// places are all places in a type. What else stands there is right.
func places() []place {
	str := api.Part{Name: "b", T: api.Type{Kind: api.Str}}
	gone := api.Part{Name: "c", T: ref("M.Gone"), Opt: true}
	part := func(x api.Type) api.Part { return api.Part{Name: "a", T: x} }
	return []place{
		{"the only part", func(kind int, x api.Type) api.Type {
			return api.Type{Kind: kind, Parts: []api.Part{part(x)}}
		}},
		{"the only addition", func(kind int, x api.Type) api.Type {
			return api.Type{Kind: kind, Ext: true, Adds: []api.Part{part(x)}}
		}},
		{"a part among others", func(kind int, x api.Type) api.Type {
			return api.Type{Kind: kind, Parts: []api.Part{gone, gone, part(x), gone}, Adds: []api.Part{gone}}
		}},
		{"an addition among others", func(kind int, x api.Type) api.Type {
			return api.Type{Kind: kind, Ext: true, Parts: []api.Part{gone}, Adds: []api.Part{gone, gone, part(x), gone}}
		}},
		{"the only element", func(kind int, x api.Type) api.Type {
			return api.Type{Kind: kind, Elem: []api.Type{x}}
		}},
		{"an element among others", func(kind int, x api.Type) api.Type {
			return api.Type{Kind: kind, Parts: []api.Part{str}, Elem: []api.Type{str.T, str.T, x, str.T}}
		}},
	}
}

// wrongTypes are types of which two parts have a tag in common, but must not, and
// rightTypes are types of which none must, or have.
func wrongTypes(t *testing.T) []api.Type {
	return []api.Type{
		typ(t, "CHOICE { a NULL, b NULL }"), typ(t, "CHOICE { a NULL, ..., b NULL }"), typ(t, "CHOICE { a BOOLEAN, ..., b NULL, c NULL }"),
		typ(t, "SEQUENCE { a NULL OPTIONAL, b NULL }"), typ(t, "SEQUENCE { a NULL DEFAULT 5, ..., b NULL }"), typ(t, "SEQUENCE { ..., a NULL, b NULL }"),
	}
}

func rightTypes(t *testing.T) []api.Type {
	return []api.Type{
		typ(t, "CHOICE { a NULL, ..., b BOOLEAN }"), typ(t, "SEQUENCE { a NULL, b NULL OPTIONAL, ..., c BOOLEAN }"), typ(t, "NULL"), ref("M.Gone"), {},
	}
}

// P13.2: at each place of each Kind, in one type after the other.
func TestCheckPlaces(t *testing.T) {
	kinds := slices.Concat(otherKinds, []int{1, 2, 3, 4, 5, 6, 7, 8, 9, 10, 11})
	for _, where := range places() {
		for n, kind := range kinds {
			for depth := range 4 {
				for k, x := range slices.Concat(wrongTypes(t), rightTypes(t)) {
					for level := range depth {
						x = where.put(kinds[(n+level)%len(kinds)], x)
					}
					want := api.OK
					if k < len(wrongTypes(t)) {
						want = api.ErrTag
					}
					l := []api.Entry{{Module: "M", Name: "A"}, {Module: "M", Name: "B", T: x}}
					if got := tags.Check(l); got != want {
						t.Fatalf("%d as %s of kind %d, at depth %d: %d, not %d", k, where.name, kind, depth, got, want)
					}
					if modelCheck(l) != want {
						t.Fatalf("the model says %d", modelCheck(l))
					}
					if got := tags.Check(withAuto(l, true)); got != api.OK {
						t.Fatalf("%d as %s of kind %d, at depth %d, with automatic tags: %d", k, where.name, kind, depth, got)
					}
				}
			}
		}
	}
}

// nested is a type in as many others as count says, of these kinds in turns, at
// a place.
func nested(where place, x api.Type, count int, kinds ...int) api.Type {
	for k := range count {
		x = where.put(kinds[k%len(kinds)], x)
	}
	return x
}

// P13.2, R1: at any depth, which may be much greater than those of types that are
// well-formed.
func TestCheckDeep(t *testing.T) {
	for _, where := range places() {
		for _, kinds := range [][]int{{api.Choice}, {api.Seq}, {api.SeqOf}, {api.Choice, api.Seq, api.SeqOf}, {api.Int}, {api.Choice, 0, api.Ref}} {
			for _, depth := range []int{37, 38, 39, 40, 41, 42, 100, 1000} {
				for k, x := range slices.Concat(wrongTypes(t), rightTypes(t)) {
					want := api.OK
					if k < len(wrongTypes(t)) {
						want = api.ErrTag
					}
					l := []api.Entry{{Module: "M", Name: "A", T: nested(where, x, depth, kinds...)}}
					if got := tags.Check(l); got != want {
						t.Fatalf("%d as %s of kinds %v, at depth %d: %d, not %d", k, where.name, kinds, depth, got, want)
					}
				}
			}
		}
	}
}

// deepest is how many levels of nesting the document asks for.
const deepest = 1 << 16

// R1: as many levels of nesting as the document asks for.
func TestDeepest(t *testing.T) {
	inmost := typ(t, "CHOICE { a NULL, b BOOLEAN }")
	for _, where := range places()[:4] {
		x := nested(where, inmost, deepest-3, api.Choice)
		for _, want := range []api.Errno{api.OK, api.ErrTag} {
			if want == api.ErrTag {
				x = choice(x, typ(t, "NULL"))
			}
			l := []api.Entry{{Module: "M", Name: "A", T: x}}
			if got := tags.Of(l, false, x); !slices.Equal(got, []int{1, 5}) {
				t.Errorf("%s: %v", where.name, shown(got))
			}
			if got := tags.Of(l, false, ref("M.A")); !slices.Equal(got, []int{1, 5}) {
				t.Errorf("%s: %v", where.name, shown(got))
			}
			if got := tags.Order(l, false, choice(typ(t, "INTEGER"), ref("M.A"), x)); !slices.Equal(got, []int{1, 2, 0}) {
				t.Errorf("%s: %v", where.name, shown(got))
			}
			if got := tags.Check(l); got != want {
				t.Errorf("%s: %d, not %d", where.name, got, want)
			}
		}
	}
	for _, where := range places() {
		for k, kinds := range [][]int{{api.Seq}, {api.SeqOf, api.Null, api.Choice}} {
			for _, x := range []api.Type{wrongTypes(t)[0], rightTypes(t)[0]} {
				want := modelCheck([]api.Entry{{T: x}})
				if got := tags.Check([]api.Entry{{T: nested(where, x, deepest-2, kinds...)}}); got != want {
					t.Errorf("%s, %d: %d, not %d", where.name, k, got, want)
				}
			}
		}
	}
}

// many is how long lists are in the tests that follow.
const many = 1 << 16

// name is a full name, of the entry with this number.
func name(k int) string { return "M." + strconv.Itoa(k) }

// chain is entries each of which has the tags of the next one, as link says, up to
// the last one, which has those of a type.
func chain(count int, last api.Type, link func(next api.Type) api.Type) []api.Entry {
	var l []api.Entry
	for k := range count - 1 {
		l = append(l, api.Entry{Module: "M", Name: strconv.Itoa(k), T: link(ref(name(k + 1)))})
	}
	return append(l, api.Entry{Module: "M", Name: strconv.Itoa(count - 1), T: last})
}

// R1: very many entries, of which each has the tags of the next one, or of those
// that follow, take no more time than it takes to go through them.
func TestLongChains(t *testing.T) {
	alone := func(next api.Type) api.Type { return next }
	within := func(next api.Type) api.Type { return choice(next) }
	twice := func(next api.Type) api.Type { return choice(next, api.Type{Kind: 77}, choice(next)) }
	optional := func(next api.Type) api.Type {
		return api.Type{Kind: api.Seq, Parts: []api.Part{{T: choice(next), Opt: true}, {T: api.Type{Kind: api.Null}}}}
	}
	last := typ(t, "CHOICE { a NULL, ..., b BOOLEAN }")
	for k, x := range []struct {
		l         []api.Entry
		of, order []int
		want      api.Errno
	}{
		{chain(many, last, alone), []int{1, 5}, []int{0, 2, 1}, api.OK},
		{chain(many, last, within), []int{1, 5}, []int{0, 2, 1}, api.OK},
		{chain(many, last, twice), []int{1, 5}, []int{0, 2, 1}, api.ErrTag},
		{chain(many, ref("M.0"), alone), nil, []int{0, 2, 1}, api.OK},
		{chain(many, ref("M.0"), within), nil, []int{0, 2, 1}, api.OK},
		{chain(many, ref("M.0"), twice), nil, []int{0, 2, 1}, api.OK},
		{chain(many, ref("M.7"), twice), nil, []int{0, 2, 1}, api.OK},
		{chain(many, ref(name(many)), alone), nil, []int{0, 2, 1}, api.OK},
		{chain(many, choice(ref("M.0"), last), within), []int{1, 5}, []int{0, 2, 1}, api.ErrTag},
		{chain(many, choice(ref("M.7"), last), alone), []int{1, 5}, []int{0, 2, 1}, api.ErrTag},
		{chain(many, last, optional), []int{16}, []int{1, 0, 2}, api.ErrTag},
		{chain(many, typ(t, "BOOLEAN"), optional), []int{16}, []int{1, 0, 2}, api.OK},
		{chain(many, choice(ref("M.0")), optional), []int{16}, []int{1, 0, 2}, api.OK},
	} {
		first := ref("M.0")
		for range 2 {
			if got := tags.Of(x.l, false, first); !slices.Equal(got, x.of) {
				t.Errorf("%d: %v, not %v", k, shown(got), x.of)
			}
			if got := tags.Order(x.l, false, choice(first, typ(t, "BIT STRING"), first)); !slices.Equal(got, x.order) {
				t.Errorf("%d: %v, not %v", k, got, x.order)
			}
			if got := tags.Check(x.l); got != x.want {
				t.Errorf("%d: %d, not %d", k, got, x.want)
			}
			if got := tags.Check(withAuto(x.l, true)); got != api.OK {
				t.Errorf("%d, with automatic tags: %d", k, got)
			}
			// The other way round.
			slices.Reverse(x.l)
		}
	}
}

// R1: very many parts.
func TestManyParts(t *testing.T) {
	null := api.Part{T: typ(t, "NULL")}
	optional := api.Part{T: null.T, Opt: true}
	none := api.Part{T: ref("M.Gone"), Opt: true}
	of := func(kind int, l ...api.Part) api.Type { return api.Type{Kind: kind, Parts: l} }
	repeat := func(l ...api.Part) []api.Part { return slices.Repeat(l, many) }
	for k, x := range []struct {
		t    api.Type
		want api.Errno
	}{
		{of(api.Seq, repeat(null)...), api.OK},
		{of(api.Seq, repeat(null, optional, api.Part{T: typ(t, "BOOLEAN")})...), api.OK},
		{of(api.Seq, append(repeat(null), optional, null)...), api.ErrTag},
		{of(api.Seq, append(append([]api.Part{optional}, repeat(none)...), null)...), api.ErrTag},
		{of(api.Seq, append([]api.Part{optional}, repeat(none)...)...), api.OK},
		{of(api.Choice, repeat(none)...), api.OK},
		{of(api.Choice, append(repeat(none), null)...), api.OK},
		{of(api.Choice, append(append([]api.Part{null}, repeat(none)...), null)...), api.ErrTag},
		{of(api.Choice, repeat(null)...), api.ErrTag},
		{api.Type{Kind: api.SeqOf, Elem: slices.Repeat([]api.Type{choice(null.T)}, many)}, api.OK},
		{api.Type{Kind: api.SeqOf, Elem: append(slices.Repeat([]api.Type{null.T}, many), choice(null.T, null.T))}, api.ErrTag},
	} {
		if got := tags.Check([]api.Entry{{T: x.t}}); got != x.want {
			t.Errorf("%d: %d, not %d", k, got, x.want)
		}
	}
	some := choice(null.T, ref("M.A"), typ(t, "BOOLEAN"), ref("M.Gone"))
	wide := of(api.Choice, slices.Repeat(some.Parts, many)...)
	l := []api.Entry{{Module: "M", Name: "A", Auto: true, T: wide}}
	wide.Adds = wide.Parts[:many]
	if got := tags.Of(l, false, wide); !slices.Equal(got, append([]int{1, 5}, automatic(4*many)...)) {
		t.Error(shown(got))
	}
	if got := tags.Of(l, true, wide); !slices.Equal(got, automatic(5*many)) {
		t.Error(shown(got))
	}
	var inOrder []int
	for _, first := range []int{3, 2, 0, 1} {
		for k := range many {
			inOrder = append(inOrder, 4*k+first)
		}
	}
	if got := tags.Order(l, false, wide); !slices.Equal(got, inOrder) {
		t.Error(shown(got))
	}
	slices.Sort(inOrder)
	if got := tags.Order(l, true, wide); !slices.Equal(got, inOrder) {
		t.Error(shown(got))
	}
}

// R1: numbers and names at their ends.
func TestNumbers(t *testing.T) {
	for _, kind := range []int{math.MinInt, math.MaxInt, -1, 0} {
		x := api.Type{Kind: kind, Name: "\xff", Con: api.Con{Op: kind, Lo: kind, Hi: kind}, Ext: true}
		x.Parts, x.Adds, x.Elem = []api.Part{{T: x}, {T: x}}, []api.Part{{T: x}}, []api.Type{x}
		l := []api.Entry{{Module: "\xff", Name: "", T: x}, {Module: "", Name: "\xff", T: choice(x, ref("\xff."), ref(".\xff"))}}
		holdCheck(t, l, api.OK)
		for _, auto := range []bool{false, true} {
			holdOf(t, l, auto, x, nil)
			holdOrder(t, l, auto, x, []int{0, 1})
		}
	}
}
