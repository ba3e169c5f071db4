package bounds_test

import (
	"slices"
	"testing"

	"spandrel/api"
	"spandrel/bounds"
)

// wrapped is a constraint in as many others as count says.
func wrapped(c api.Con, count int, wrap func(c api.Con) api.Con) api.Con {
	for range count {
		c = wrap(c)
	}
	return c
}

// P12.1: what is nested 39, 40 and 41 deep, alone and as one element among others,
// at each place.
func TestDeep(t *testing.T) {
	for k, x := range []struct {
		wrap func(c api.Con) api.Con
		// The sets with (1 9) that deep.
		at39, at40, at41 []api.Range
	}{
		// Alone.
		{func(c api.Con) api.Con { return union(c) }, set(1, 9), set(1, 9), nil},
		{func(c api.Con) api.Con { return meet(c) }, set(1, 9), set(1, 9), nil},
		{func(c api.Con) api.Con { return except(c) }, set(1, 9), set(1, 9), nil},
		// Among others: those that are less deep still count.
		{func(c api.Con) api.Con { return union(c, one(20)) }, set(1, 9, 20, 20), set(1, 9, 20, 20), set(20, 20)},
		{func(c api.Con) api.Con { return union(one(20), c) }, set(1, 9, 20, 20), set(1, 9, 20, 20), set(20, 20)},
		{func(c api.Con) api.Con { return union(one(20), c, one(11)) }, set(1, 9, 11, 11, 20, 20), set(1, 9, 11, 11, 20, 20), set(11, 11, 20, 20)},
		{func(c api.Con) api.Con { return meet(c, span(5, 50)) }, set(5, 9), set(5, 9), nil},
		{func(c api.Con) api.Con { return meet(span(5, 50), c) }, set(5, 9), set(5, 9), nil},
		{func(c api.Con) api.Con { return meet(span(5, 50), c, upTo(7)) }, set(5, 7), set(5, 7), nil},
		{func(c api.Con) api.Con { return except(c, one(5)) }, set(1, 4, 6, 9), set(1, 4, 6, 9), nil},
		{func(c api.Con) api.Con { return except(c, one(5), one(1)) }, set(2, 4, 6, 9), set(2, 4, 6, 9), nil},
		// What is taken away at each depth stays at the next one. At 41, what is
		// at 40 admits nothing, so that it is all that is left at 39.
		{func(c api.Con) api.Con { return except(span(1, 50), c) }, set(1, 9), set(10, 50), set(1, 50)},
		{func(c api.Con) api.Con { return except(span(1, 50), one(30), c) }, set(1, 9), set(10, 29, 31, 50), set(1, 29, 31, 50)},
		{func(c api.Con) api.Con { return except(span(1, 50), c, one(30)) }, set(1, 9), set(10, 29, 31, 50), set(1, 29, 31, 50)},
		{func(c api.Con) api.Con { return except(api.Con{}, c) }, set(1, 9), set(least, 0, 10, most), set(least, most)},
	} {
		for depth, want := range map[int][]api.Range{39: x.at39, 40: x.at40, 41: x.at41} {
			c := wrapped(span(1, 9), depth-1, x.wrap)
			if !slices.Equal(modelSet(c, set(least, most)), want) {
				t.Errorf("%d, at %d: the model says %s", k, depth, shown(modelSet(c, set(least, most))))
			}
			hold(t, c, set(least, most), want)
			for _, parent := range parents() {
				holdModel(t, c, parent)
			}
		}
		// All depths about the deepest one, whatever is there.
		for depth := 36; depth < 45; depth++ {
			for _, inner := range []api.Con{{}, span(1, 9), span(5, 4), union(), meet(), except(), con(9), union(one(3)), meet(one(3)), except(one(3)), except(api.Con{}, one(3))} {
				holdModel(t, wrapped(inner, depth-1, x.wrap), set(least, most))
			}
		}
	}
}

// P12.1: of each Op, 40 deep and 41 deep.
func TestDeepest(t *testing.T) {
	alone := func(op int) func(c api.Con) api.Con {
		return func(c api.Con) api.Con { return con(op, c) }
	}
	for _, x := range []struct {
		c    api.Con
		at40 []api.Range
	}{
		{api.Con{}, set(least, most)}, {span(1, 9), set(1, 9)}, {upTo(0), set(least, 0)}, {upFrom(0), set(0, most)}, {span(5, 4), nil},
		{meet(), set(least, most)}, {except(), set(least, most)}, {union(), nil}, {con(9), nil}, {con(-1), nil},
		// Their elements are 41 deep.
		{meet(api.Con{}), nil}, {except(api.Con{}), nil}, {union(api.Con{}), nil}, {union(api.Con{}, one(1)), nil}, {meet(one(1), one(1)), nil}, {except(api.Con{}, union()), nil},
	} {
		for _, op := range combinations {
			hold(t, wrapped(x.c, 39, alone(op)), set(least, most), x.at40)
			hold(t, wrapped(x.c, 40, alone(op)), set(least, most), nil)
			// What admits nothing takes nothing away.
			hold(t, except(span(1, 5), wrapped(x.c, 39, alone(op))), set(least, most), set(1, 5))
			hold(t, union(span(1, 5), wrapped(x.c, 39, alone(op))), set(least, most), set(1, 5))
			hold(t, meet(span(1, 5), wrapped(x.c, 39, alone(op))), set(least, most), nil)
			hold(t, except(wrapped(x.c, 39, alone(op)), span(1, 5)), set(least, most), nil)
			holdModel(t, union(span(-9, -1), wrapped(x.c, 38, alone(op))), set(-9, 9))
			holdModel(t, union(span(-9, -1), wrapped(x.c, 39, alone(op))), set(-9, 9))
		}
	}
	// Elements of a combination have a depth of their own each.
	at := func(depth, n int) api.Con { return wrapped(one(n), depth-2, alone(api.Union)) }
	hold(t, union(at(39, 1), at(41, 2), at(40, 3), at(2, 4), at(42, 5), at(40, 6)), set(least, most), set(1, 1, 3, 4, 6, 6))
	hold(t, except(span(1, 9), at(39, 1), at(41, 2), at(40, 3), at(2, 4), at(42, 5), at(40, 6)), set(least, most), set(2, 2, 5, 5, 7, 9))
	hold(t, meet(at(39, 1), at(40, 1), at(2, 1)), set(least, most), set(1, 1))
	hold(t, meet(at(39, 1), at(40, 1), at(2, 1), at(41, 1)), set(least, most), nil)
}

// R1, P12.1: a constraint that is an element of itself, and one that is very deep.
func TestEndless(t *testing.T) {
	for _, x := range []struct {
		op    int
		other []api.Con
		want  []api.Range
	}{
		{api.Union, nil, nil}, {api.Meet, nil, nil}, {api.Except, nil, nil}, {api.All, nil, set(least, most)}, {api.Span, nil, set(0, 0)}, {9, nil, nil},
		{api.Union, []api.Con{one(1), one(3)}, set(1, 1, 3, 3)}, {api.Meet, []api.Con{one(1)}, nil}, {api.Except, []api.Con{one(1)}, nil},
	} {
		ring := append([]api.Con{con(x.op)}, x.other...)
		ring[0].L = ring
		deep := wrapped(one(1), 60000, func(c api.Con) api.Con { return con(x.op, append([]api.Con{c}, x.other...)...) })
		for _, c := range []api.Con{ring[0], deep} {
			if got := bounds.Set(c, set(least, most)); !slices.Equal(got, x.want) {
				t.Errorf("Op %d: %s, not %s", x.op, shown(got), shown(x.want))
			}
			got, is := bounds.Of(api.Type{Kind: api.Int, Con: c})
			if !slices.Equal(got, x.want) || !is {
				t.Errorf("Op %d: %s %v", x.op, shown(got), is)
			}
			if e := bounds.Check(api.Type{Kind: api.Int, Con: c}); (e == api.OK) != (len(x.want) > 0) {
				t.Errorf("Op %d: %d", x.op, e)
			}
		}
	}
}
