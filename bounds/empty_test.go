package bounds_test

import (
	"slices"
	"testing"

	"spandrel/api"
	"spandrel/bounds"
)

// in puts a type at one of the places where types are nested in another one, of
// some Kind, alone or among types that are not empty.
type in struct {
	name string
	put  func(kind int, x api.Type) api.Type
}

// fine is a type that is not empty, and part a part of some type.
var fine = api.Type{Kind: api.Int, Con: span(1, 5)}

func part(x api.Type) api.Part { return api.Part{Name: "a", T: x} }

// places are all places.
func places() []in {
	// One with itself as Def, and one that may be missing, are parts like others.
	optional := func(x api.Type) api.Part { return api.Part{Name: "b", T: x, Opt: true} }
	usual := func(x api.Type) api.Part {
		return api.Part{Name: "c", T: x, Def: []api.Value{{Kind: api.Int, N: 5}}}
	}
	return []in{
		{"Parts", func(kind int, x api.Type) api.Type { return api.Type{Kind: kind, Parts: []api.Part{part(x)}} }},
		{"Adds", func(kind int, x api.Type) api.Type {
			return api.Type{Kind: kind, Ext: true, Adds: []api.Part{part(x)}}
		}},
		{"Elem", func(kind int, x api.Type) api.Type { return api.Type{Kind: kind, Elem: []api.Type{x}} }},
		{"the first of Parts", func(kind int, x api.Type) api.Type {
			return api.Type{Kind: kind, Parts: []api.Part{optional(x), part(fine), part(fine)}, Adds: []api.Part{part(fine)}}
		}},
		{"the last of Parts", func(kind int, x api.Type) api.Type {
			return api.Type{Kind: kind, Parts: []api.Part{part(fine), part(fine), usual(x)}, Elem: []api.Type{fine}}
		}},
		{"the middle of Adds", func(kind int, x api.Type) api.Type {
			return api.Type{Kind: kind, Parts: []api.Part{part(fine)}, Adds: []api.Part{part(fine), optional(x), part(fine)}}
		}},
		{"Adds, without Ext, behind Parts", func(kind int, x api.Type) api.Type {
			return api.Type{Kind: kind, Parts: []api.Part{part(fine)}, Adds: []api.Part{usual(x)}, Elem: []api.Type{fine}}
		}},
		{"the last of Elem", func(kind int, x api.Type) api.Type {
			return api.Type{Kind: kind, Parts: []api.Part{part(fine)}, Adds: []api.Part{part(fine)}, Elem: []api.Type{fine, fine, x}}
		}},
	}
}

// emptyTypes are types that are empty themselves.
func emptyTypes() []api.Type {
	l := []api.Type{{Kind: api.Int, Con: span(5, 4)}, {Kind: api.Int, Con: union(), Ext: true}, {Kind: api.Int, Con: con(9)}, {Kind: api.Int, Con: meet(one(1), one(2))}}
	for _, kind := range sized {
		l = append(l, api.Type{Kind: kind, Con: span(-5, -1)}, api.Type{Kind: kind, Con: span(5, 4), Ext: true, Elem: []api.Type{fine}})
	}
	return l
}

// fullTypes are types that are not empty, though some of them would be if they
// were of another Kind.
func fullTypes() []api.Type {
	l := []api.Type{{}, fine, {Kind: api.Int}, {Kind: api.Int, Con: span(-5, -1)}, {Kind: api.SeqOf, Con: one(0), Elem: []api.Type{fine}}}
	for _, kind := range plain {
		l = append(l, api.Type{Kind: kind, Con: span(5, 4), Ext: true}, api.Type{Kind: kind, Con: union()})
	}
	for _, kind := range sized {
		l = append(l, api.Type{Kind: kind}, api.Type{Kind: kind, Con: span(-5, 0), Ext: true})
	}
	return l
}

// P12.4: each row in a type of each Kind.
func TestCheck(t *testing.T) {
	wrong := func(s []api.Range) api.Errno {
		if len(s) == 0 {
			return api.ErrEmpty
		}
		return api.OK
	}
	for _, x := range rows() {
		holdCheck(t, api.Type{Kind: api.Int, Con: x.c}, wrong(x.all))
		for _, kind := range sized {
			holdCheck(t, api.Type{Kind: kind, Con: x.c}, wrong(x.sizes))
			holdCheck(t, api.Type{Kind: kind, Con: x.c, Ext: true, Elem: []api.Type{fine}}, wrong(x.sizes))
		}
		for _, kind := range plain {
			holdCheck(t, api.Type{Kind: kind, Con: x.c}, api.OK)
		}
		holdCheck(t, api.Type{Kind: api.Seq, Parts: []api.Part{part(fine), part(api.Type{Kind: api.Int, Con: x.c})}}, wrong(x.all))
		holdCheck(t, api.Type{Kind: api.SeqOf, Elem: []api.Type{{Kind: api.Octets, Con: x.c}}}, wrong(x.sizes))
	}
}

// P12.4: an empty type at each place of each Kind, at depths up to 42.
func TestCheckDeep(t *testing.T) {
	kinds := slices.Concat([]int{api.Int}, sized, plain)
	for _, place := range places() {
		for _, kind := range kinds {
			for depth := 1; depth <= 42; depth++ {
				if depth > 3 && depth < 38 {
					continue
				}
				for k, x := range slices.Concat(emptyTypes(), fullTypes()) {
					want := api.OK
					if k < len(emptyTypes()) && depth <= 40 {
						want = api.ErrEmpty
					}
					for range depth - 1 {
						x = place.put(kind, x)
					}
					if got := bounds.Check(x); got != want {
						t.Fatalf("%d in %s of kind %d, at depth %d: %d, not %d", k, place.name, kind, depth, got, want)
					}
				}
			}
		}
	}
}

// P12.4: places and kinds that change from depth to depth.
func TestCheckMixed(t *testing.T) {
	kinds := slices.Concat(plain, []int{api.Int}, sized)
	for shift := range 5 {
		for _, depth := range []int{1, 2, 5, 20, 38, 39, 40, 41, 42, 43, 60} {
			for k, x := range slices.Concat(emptyTypes(), fullTypes()) {
				want := api.OK
				if k < len(emptyTypes()) && depth <= 40 {
					want = api.ErrEmpty
				}
				for n := range depth - 1 {
					x = places()[(n+shift)%len(places())].put(kinds[(n*3+shift)%len(kinds)], x)
				}
				holdCheck(t, x, want)
				if modelCheck(x) != want {
					t.Errorf("the model says %d", modelCheck(x))
				}
			}
		}
	}
}

// P12.1, P12.4: a constraint is as deep as it is alone, however deep its type is;
// beneath an empty type, and beside it, others may be too deep.
func TestCheckDeepCon(t *testing.T) {
	alone := func(c api.Con) api.Con { return meet(c) }
	for _, place := range places() {
		for _, depth := range []int{1, 2, 39, 40, 41} {
			for _, nested := range []int{39, 40, 41} {
				x := api.Type{Kind: api.Octets, Con: wrapped(span(1, 9), nested-1, alone)}
				for range depth - 1 {
					x = place.put(api.Choice, x)
				}
				want := api.OK
				if nested == 41 && depth <= 40 {
					want = api.ErrEmpty
				}
				holdCheck(t, x, want)
			}
		}
		deep := api.Type{Kind: api.Int, Con: union()}
		for range 40 {
			deep = place.put(api.Seq, deep)
		}
		holdCheck(t, deep, api.OK)
		holdCheck(t, api.Type{Kind: api.Int, Con: union(), Elem: []api.Type{deep}}, api.ErrEmpty)
		holdCheck(t, api.Type{Kind: api.Seq, Parts: []api.Part{part(deep), part(deep)}, Adds: []api.Part{part(deep)}, Elem: []api.Type{deep}}, api.OK)
		holdCheck(t, api.Type{Kind: api.Seq, Parts: []api.Part{part(deep)}, Adds: []api.Part{part(deep)}, Elem: []api.Type{deep, {Kind: api.Bits, Con: one(-1)}}}, api.ErrEmpty)
	}
}

// R1: types that stand in themselves, and very deep ones.
func TestCheckEndless(t *testing.T) {
	for _, empty := range []bool{false, true} {
		inner, want := fine, api.OK
		if empty {
			inner, want = api.Type{Kind: api.Int, Con: union()}, api.ErrEmpty
		}
		ring := []api.Type{{Kind: api.SeqOf}, inner}
		ring[0].Elem = ring
		turn := []api.Part{part(api.Type{Kind: api.Seq}), part(inner)}
		turn[0].T.Parts = turn
		added := []api.Part{part(api.Type{Kind: api.Choice, Ext: true}), part(inner)}
		added[0].T.Adds = added
		for _, x := range []api.Type{ring[0], turn[0].T, added[0].T} {
			if got := bounds.Check(x); got != want {
				t.Errorf("kind %d: %d, not %d", x.Kind, got, want)
			}
		}
		for _, place := range places() {
			x := inner
			for range 20000 {
				x = place.put(api.Seq, x)
			}
			if got := bounds.Check(x); got != api.OK {
				t.Errorf("%s: %d", place.name, got)
			}
		}
	}
}
