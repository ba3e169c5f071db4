package member_test

import (
	"math"
	"slices"
	"testing"

	"spandrel/api"
	"spandrel/member"
)

// differing are values of which no two are the same; many differ in one field
// alone.
func differing() []api.Value {
	return []api.Value{
		{}, {Kind: 1}, {Kind: -1}, {Kind: math.MinInt}, {N: 1}, {N: -1}, {N: math.MaxInt}, {S: "a"}, {S: "b"}, {S: "A"}, {S: "aa"}, {S: "\x00"}, {S: "é"}, {S: "e\u0301"}, {S: "\xff"}, {S: "\xfe"},
		{Names: []string{"a"}}, {Names: []string{""}}, {Names: []string{"a", "b"}}, {Names: []string{"b", "a"}}, {Names: []string{"ab"}}, {Names: []string{"a", ""}}, {Names: []string{"", "a"}}, {Names: []string{"a", "a"}},
		{L: []api.Value{{}}}, {L: []api.Value{{}, {}}}, {L: []api.Value{{Kind: 1}}}, {L: []api.Value{{Kind: 1}, {}}}, {L: []api.Value{{}, {Kind: 1}}}, {L: []api.Value{{L: []api.Value{{}}}}}, {L: []api.Value{{}, {L: []api.Value{{}}}}},
		{Kind: 1, S: "a"}, {N: 1, S: "a"}, {S: "a", Names: []string{"a"}}, {S: "a", L: []api.Value{{}}}, {Names: []string{"a"}, L: []api.Value{{}}}, {Names: []string{"a"}, L: []api.Value{{S: "a"}}},
		boolean(1), integer(1), item("a"), null(), bits("a"), octets("a"), str("a"), seq("a", null()), list(null()), alternative("a", null()), seq("a b", null(), null()), seq("a b", null(), boolean(0)), seq("a b", boolean(0), null()),
	}
}

// P15.4: each field different alone, and lists of different lengths, at each depth.
func TestSame(t *testing.T) {
	all := differing()
	for depth := range 5 {
		for k, a := range all {
			for other, b := range all {
				holdSame(t, within(a, depth), within(b, depth), k == other)
			}
			holdSame(t, within(a, depth), within(a, depth+1), false)
		}
	}
}

// within is a value below as many levels, at different places of lists.
func within(v api.Value, depth int) api.Value {
	for k := range depth {
		l := []api.Value{boolean(1), integer(5)}
		v = api.Value{Kind: 8 + k%3, N: k, S: "s", Names: []string{"x", "y"}, L: slices.Insert(l, k%3, v)}
	}
	return v
}

// P15.4: a list without elements may be nil or not.
func TestSameEmpty(t *testing.T) {
	for _, x := range []api.Value{{}, {Kind: 8, N: 1, S: "a"}, {Names: []string{}}, {L: []api.Value{}}} {
		a, b := x, x
		a.Names, a.L = nil, nil
		b.Names, b.L = []string{}, []api.Value{}
		if !member.Same(a, b) || !member.Same(b, a) || !member.Same(list(a, b), list(b, a)) {
			t.Error(told(x))
		}
		a.Names = make([]string, 0, 7)
		a.L = make([]api.Value, 0, 7)
		if !member.Same(a, b) || !member.Same(b, a) {
			t.Error(told(x))
		}
	}
}

// P15.4: Same holds no value against a type, and does not complete it.
func TestSameDefault(t *testing.T) {
	holdSame(t, seq("b", null()), seq("a b", boolean(1), null()), false)
	holdSame(t, seq("a b", boolean(1), null()), seq("b a", null(), boolean(1)), false)
	holdSame(t, api.Value{Kind: 77, N: 5, S: "x", Names: []string{"y"}, L: []api.Value{{}}}, api.Value{Kind: 77, N: 5, S: "x", Names: []string{"y"}, L: []api.Value{{}}}, true)
}
