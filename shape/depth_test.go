package shape_test

import (
	"strings"
	"testing"

	"spandrel/api"
	"spandrel/shape"
)

// wraps is the ways to nest a type in another one, each with the texts that
// stand ahead of it and behind it.
func wraps() []wrap {
	return []wrap{
		{func(x api.Type) api.Type { return seq(of("a", x)) }, "SEQUENCE { a ", " }"},
		{func(x api.Type) api.Type { return seq(of("a", null), of("b", x), of("c", null)) }, "SEQUENCE { a NULL, b ", ", c NULL }"},
		{func(x api.Type) api.Type {
			return api.Type{Kind: api.Seq, Ext: true, Adds: []api.Part{of("a", null), of("b", x)}}
		}, "SEQUENCE { ..., a NULL, b ", " }"},
		{func(x api.Type) api.Type { return choice(of("a", x), of("b", null)) }, "CHOICE { a ", ", b NULL }"},
		{func(x api.Type) api.Type {
			return api.Type{Kind: api.Choice, Parts: []api.Part{of("a", null)}, Ext: true, Adds: []api.Part{of("b", x)}}
		}, "CHOICE { a NULL, ..., b ", " }"},
		{func(x api.Type) api.Type { return api.Type{Kind: api.SeqOf, Elem: []api.Type{x}} }, "SEQUENCE OF ", ""},
	}
}

// wrap is a way to nest a type in another one.
type wrap struct {
	of            func(api.Type) api.Type
	ahead, behind string
}

// checkDepth holds Depth against a depth.
func checkDepth(t *testing.T, x api.Type, depth int) {
	t.Helper()
	if got := shape.Depth(x); got != depth {
		t.Errorf("%.200q: depth %d, not %d", shape.TypeText(x), got, depth)
	}
}

// P8.1, P8.3: types 40 deep and 41 deep, nested in each way and in all of them
// in turn.
func TestDeep(t *testing.T) {
	for first := range len(wraps()) + 1 {
		x, text := null, "NULL"
		for n := 1; n <= 44; n++ {
			if n <= 40 {
				checkType(t, x, text)
				checkDepth(t, x, n)
			} else {
				checkType(t, x, "")
				checkDepth(t, x, 41)
			}
			w := wraps()[n%len(wraps())]
			if first < len(wraps()) {
				w = wraps()[first]
			}
			x, text = w.of(x), w.ahead+text+w.behind
		}
	}
}

// P8.1: Depth of types far deeper.
func TestFarDeeper(t *testing.T) {
	for _, w := range wraps() {
		x := null
		for n := 1; n < 1<<16; n++ {
			x = w.of(x)
		}
		checkDepth(t, x, 41)
		if shape.Type(x) || shape.TypeText(x) != "" || shape.Module(api.Module{Name: "M", Defs: []api.Def{{Name: "A", T: x}}}) {
			t.Error("well-formed")
		}
		if !shape.Same(x, clone(x)) || shape.Same(x, w.of(x)) {
			t.Error("the same, or not")
		}
	}
}

// P8.1: Depth goes by Parts, Adds and Elem, be the type well-formed or not.
func TestDepthOfAny(t *testing.T) {
	checkDepth(t, api.Type{}, 1)
	checkDepth(t, api.Type{Kind: -1, Names: []string{"a"}, Con: union(union(one(1), one(2)), one(3))}, 1)
	for kind := -1; kind <= 13; kind++ {
		two, three := api.Type{Kind: kind, Elem: []api.Type{{}}}, api.Type{Kind: kind, Elem: []api.Type{{}, {Elem: []api.Type{{}}}, {}}}
		checkDepth(t, two, 2)
		checkDepth(t, three, 3)
		checkDepth(t, api.Type{Kind: kind, Parts: []api.Part{{T: two}, {T: three}, {T: two}}}, 4)
		checkDepth(t, api.Type{Kind: kind, Adds: []api.Part{{T: three}, {T: two}}}, 4)
		checkDepth(t, api.Type{Kind: kind, Parts: []api.Part{{T: two}}, Adds: []api.Part{{T: three}}}, 4)
		checkDepth(t, api.Type{Kind: kind, Parts: []api.Part{{T: three}}, Adds: []api.Part{{T: two}}}, 4)
		checkDepth(t, api.Type{Kind: kind, Parts: []api.Part{{}}, Adds: []api.Part{{T: two}}, Elem: []api.Type{three}}, 4)
		checkDepth(t, api.Type{Kind: kind, Parts: []api.Part{{T: two}}, Adds: []api.Part{{T: two}}, Elem: []api.Type{{}}}, 3)
		// Neither constraints nor values nest types.
		deepest, _ := nestedCon(100, api.Union)
		v := api.Value{}
		for range 100 {
			v = api.Value{L: []api.Value{v}}
		}
		checkDepth(t, api.Type{Kind: kind, Con: deepest, Parts: []api.Part{{Def: []api.Value{v}}}}, 2)
	}
	x := null
	for range 41 {
		x = api.Type{Kind: api.Bool, Parts: []api.Part{{}, {T: x}, {}}, Adds: []api.Part{{}}, Elem: []api.Type{{}, {}}}
	}
	checkDepth(t, x, 41)
	checkType(t, x, "")
}

// P1, P8.1: a type that stands in itself is deeper than all others, in however
// many places it does.
func TestRings(t *testing.T) {
	ring := make([]api.Type, 3)
	turn := make([]api.Part, 3)
	for k := range ring {
		ring[k] = api.Type{Kind: api.SeqOf, Elem: ring}
		turn[k] = api.Part{Name: "a", T: api.Type{Kind: api.Seq, Ext: true, Parts: turn, Adds: turn, Elem: ring[:1]}}
	}
	for _, x := range []api.Type{ring[0], turn[0].T, {Kind: api.SeqOf, Elem: ring[:1]}, seq(turn...), choice(turn[0]), {Kind: api.Choice, Parts: []api.Part{of("a", null)}, Ext: true, Adds: turn}} {
		if shape.Depth(x) != 41 || shape.Type(x) || shape.TypeText(x) != "" {
			t.Errorf("kind %d: depth %d", x.Kind, shape.Depth(x))
		}
		m := api.Module{Name: "M", Defs: []api.Def{{Name: "A", T: x}}}
		if shape.Module(m) || shape.ModuleText(m) != "" {
			t.Errorf("kind %d: well-formed", x.Kind)
		}
	}
	// A type of which very much could be gone through is soon deep enough.
	wide := null
	for range 41 {
		p := of("a", wide)
		wide = api.Type{Kind: api.Seq, Parts: []api.Part{p, p, p}, Ext: true, Adds: []api.Part{p, p}}
	}
	if shape.Depth(wide) != 41 || shape.Type(wide) || shape.TypeText(wide) != "" {
		t.Error(shape.Depth(wide))
	}
}

// P8.1, P8.3: the longest texts have no limit.
func TestLong(t *testing.T) {
	x, text := api.Type{Kind: api.Enum, Names: []string{"a" + strings.Repeat("b", 100000)}}, "ENUMERATED { a"+strings.Repeat("b", 100000)+" }"
	checkWithin(t, x, text)
	l := make([]api.Part, 256)
	for k := range l {
		l[k] = of("a", x)
	}
	checkType(t, seq(l...), "SEQUENCE { a "+strings.Repeat(text+", a ", 255)+text+" }")
	checkWithin(t, ref("A"+strings.Repeat("-b", 100000)), "A"+strings.Repeat("-b", 100000))
}
