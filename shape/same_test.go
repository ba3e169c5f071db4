package shape_test

import (
	"fmt"
	"math"
	"reflect"
	"testing"

	"spandrel/api"
	"spandrel/shape"
)

// samples is well-formed types of each kind, with all that each may have.
func samples() []api.Type {
	deepCon := except(union(one(1), meet(fromMin, toMax)), span(2, 3))
	flagDefault, wordDefault := api.Value{Kind: api.Bool, N: 1}, api.Value{Kind: api.Enum, S: "a"}
	text := api.Type{Kind: api.Str, Con: span(1, 2), Ext: true, From: "ab"}
	l := []api.Type{
		flag, null, ref("T"), text,
		{Kind: api.Int, Con: deepCon, Ext: true},
		{Kind: api.Bits, Con: one(8)},
		{Kind: api.Octets, Con: span(1, 2), Ext: true},
		{Kind: api.Enum, Names: []string{"a", "b"}, Ext: true, More: []string{"c", "d"}},
		seq(),
		{
			Kind: api.Seq, Ext: true,
			Parts: []api.Part{{Name: "a", T: flag, Opt: true}, with("b", text, api.Value{Kind: api.Str, S: "a\""}), of("c", null)},
			Adds:  []api.Part{with("d", ref("T"), wordDefault), with("e", api.Type{Kind: api.Int, Con: one(-1)}, api.Value{Kind: api.Int, N: -1})},
		},
		{Kind: api.Choice, Parts: []api.Part{of("a", null), of("b", text)}, Ext: true, Adds: []api.Part{of("c", ref("T"))}},
		{Kind: api.SeqOf, Con: deepCon, Ext: true, Elem: []api.Type{seq(with("a", flag, flagDefault))}},
	}
	inner := choice(of("a", seq(of("b", api.Type{Kind: api.SeqOf, Con: one(1), Elem: []api.Type{text}}))))
	return append(l, api.Type{Kind: api.Seq, Ext: true, Adds: []api.Part{with("a", inner, flagDefault)}})
}

// checkSame holds Same against whether two types are the same, in both
// directions.
func checkSame(t *testing.T, a, b api.Type, same bool) {
	t.Helper()
	if shape.Same(a, b) != same || shape.Same(b, a) != same {
		t.Fatalf("%v, %v, not %v:\n%.500s\n%.500s", shape.Same(a, b), shape.Same(b, a), same, fmt.Sprintf("%+v", a), fmt.Sprintf("%+v", b))
	}
}

// P8.1, P8.3, P8.5: all that differs in one thing, at any depth, from the
// samples: it is not the same, is held against the model, and if it is
// well-formed has another text.
func TestVaried(t *testing.T) {
	texts := map[string]api.Type{}
	note := func(x api.Type) {
		if !modelType(t, x) {
			return
		}
		text := shape.TypeText(x)
		if y, ok := texts[text]; ok && !equal(x, y) {
			t.Fatalf("%q is the text of two:\n%+v\n%+v", text, x, y)
		}
		texts[text] = clone(x)
	}
	for _, x := range samples() {
		note(x)
		if !shape.Type(x) {
			t.Errorf("%+v: not well-formed", x)
		}
		checkSame(t, x, clone(x), true)
		vary(x, func(y api.Type) {
			checkSame(t, x, y, false)
			checkSame(t, y, clone(y), true)
			note(y)
		})
	}
	if len(texts) < 500 {
		t.Errorf("only %d texts", len(texts))
	}
}

// P8.1: types that differ in one field alone, whatever else they hold.
func TestSameFields(t *testing.T) {
	v := api.Value{Kind: 99, N: 5, S: "s", Names: []string{"x"}, L: []api.Value{{Kind: 1, N: 1}, {S: "a", Names: []string{"y", "z"}}}}
	leaf := api.Type{
		Kind: -7, Name: "\x00", Con: api.Con{Op: 77, Lo: math.MinInt, Hi: math.MaxInt, Low: true, High: true, L: []api.Con{{}, one(1), {L: []api.Con{{Lo: 1}}}}}, Ext: true, From: "ba",
		Names: []string{"", "B"}, More: []string{"-"}, Parts: []api.Part{{}, {Name: "A", Opt: true, Def: []api.Value{v, {}}}}, Adds: []api.Part{{T: null}}, Elem: []api.Type{{}, flag},
	}
	x := leaf
	x.Parts = []api.Part{{Name: "p", T: leaf, Def: []api.Value{v}}}
	x.Adds = []api.Part{{}, {T: api.Type{Elem: []api.Type{leaf}}}}
	count := 0
	vary(x, func(y api.Type) {
		count++
		checkSame(t, x, y, false)
	})
	if count < 2000 {
		t.Errorf("only %d variants", count)
	}
	// Each field alone, against a type with nothing set.
	for k := range reflect.TypeOf(leaf).NumField() {
		var y api.Type
		reflect.ValueOf(&y).Elem().Field(k).Set(reflect.ValueOf(leaf).Field(k))
		checkSame(t, y, api.Type{}, false)
		checkSame(t, y, leaf, false)
		checkSame(t, y, clone(y), true)
	}
	checkSame(t, api.Type{}, api.Type{}, true)
}

// P8.1: a list without elements is the same be it nil or not.
func TestSameEmpty(t *testing.T) {
	v := api.Value{Names: []string{}, L: []api.Value{}}
	x := api.Type{Con: api.Con{L: []api.Con{}}, Names: []string{}, More: []string{}, Parts: []api.Part{}, Adds: []api.Part{}, Elem: []api.Type{}}
	checkSame(t, x, api.Type{}, true)
	checkSame(t, api.Type{Parts: []api.Part{{Def: []api.Value{}}, {T: x, Def: []api.Value{v}}}, Elem: []api.Type{x}}, api.Type{Parts: []api.Part{{}, {Def: []api.Value{{}}}}, Elem: []api.Type{{}}}, true)
	checkSame(t, api.Type{Con: api.Con{L: []api.Con{{L: []api.Con{}}}}}, api.Type{Con: api.Con{L: []api.Con{{}}}}, true)
	checkSame(t, api.Type{Con: api.Con{L: []api.Con{{}}}}, api.Type{}, false)
	checkSame(t, api.Type{Names: []string{""}}, api.Type{}, false)
}
