package spans_test

import (
	"math"
	"slices"
	"testing"

	"spandrel/api"
	"spandrel/spans"
)

// P11.1: sets that are normalized.
func TestRight(t *testing.T) {
	for _, text := range []string{
		"", "(0 0)", "(1 7)", "(-5 -5)", "(min min)", "(max max)", "(min max)", "(min -1)", "(0 max)", "(min min+1)", "(max-1 max)",
		"(1 2) (5 9)", "(1 3) (5 7)", "(1 1) (3 3) (5 5) (7 7)", "(-3 -1) (1 3)", "(-1 -1) (1 1)", "(-2 -1) (1 max)",
		"(min min) (max max)", "(min min) (min+2 min+2)", "(min -1) (1 max)", "(max-2 max-2) (max max)", "(min 5) (7 8) (10 max)", "(min max-2) (max max)", "(min min) (min+2 max)", "(min min) (0 0) (max max)",
	} {
		s := set(t, text)
		if !spans.Right(s) {
			t.Errorf("%s is not normalized", text)
		}
		for _, l := range written(s) {
			holdOne(t, l)
			if got := spans.Norm(l); !slices.Equal(got, s) {
				t.Errorf("%s is %s, not %s", shown(l), shown(got), text)
			}
		}
	}
}

// P11.1: sets that are not normalized, and what they are when they are.
func TestNorm(t *testing.T) {
	for _, x := range []struct{ text, want string }{
		// The chapter's example.
		{"(5 7) (1 3) (4 4)", "(1 7)"},
		// Ranges that are empty, alone and among others.
		{"(1 0)", ""}, {"(9 1)", ""}, {"(0 -1)", ""}, {"(max min)", ""}, {"(max max-1)", ""}, {"(min+1 min)", ""}, {"(0 min)", ""}, {"(max 0)", ""},
		{"(1 0) (1 0)", ""}, {"(5 4) (3 2) (max min)", ""},
		{"(1 0) (1 2)", "(1 2)"}, {"(1 2) (2 1)", "(1 2)"}, {"(1 2) (9 3) (5 9)", "(1 2) (5 9)"}, {"(1 2) (3 2) (3 5)", "(1 5)"}, {"(1 2) (3 2) (4 5)", "(1 2) (4 5)"},
		{"(1 9) (5 3)", "(1 9)"}, {"(max min) (0 0)", "(0 0)"}, {"(0 0) (max min)", "(0 0)"}, {"(1 2) (max 3)", "(1 2)"}, {"(5 6) (4 min)", "(5 6)"}, {"(min min) (max min) (max max)", "(min min) (max max)"},
		// In any order.
		{"(5 9) (1 2)", "(1 2) (5 9)"}, {"(9 9) (7 7) (5 5) (3 3)", "(3 3) (5 5) (7 7) (9 9)"}, {"(3 3) (9 9) (5 5) (1 1) (7 7)", "(1 1) (3 3) (5 5) (7 7) (9 9)"},
		{"(max max) (min min)", "(min min) (max max)"}, {"(1 1) (-1 -1)", "(-1 -1) (1 1)"}, {"(0 max) (min -2)", "(min -2) (0 max)"},
		// Equal ones, and those that begin or end alike.
		{"(1 3) (1 3)", "(1 3)"}, {"(1 1) (1 1) (1 1)", "(1 1)"}, {"(min max) (min max)", "(min max)"}, {"(max max) (max max)", "(max max)"}, {"(min min) (min min)", "(min min)"},
		{"(1 3) (1 5)", "(1 5)"}, {"(1 5) (1 3)", "(1 5)"}, {"(1 5) (3 5)", "(1 5)"}, {"(3 5) (1 5)", "(1 5)"}, {"(1 5) (1 1) (1 9) (1 3) (11 11)", "(1 9) (11 11)"},
		// One within another.
		{"(1 9) (3 4)", "(1 9)"}, {"(3 4) (1 9)", "(1 9)"}, {"(1 9) (3 4) (6 6) (8 12)", "(1 12)"}, {"(1 9) (2 3) (9 9) (11 12)", "(1 9) (11 12)"}, {"(min max) (0 0)", "(min max)"}, {"(min max) (max max) (min min)", "(min max)"},
		// That overlap.
		{"(1 5) (3 9)", "(1 9)"}, {"(3 9) (1 5)", "(1 9)"}, {"(1 5) (5 9)", "(1 9)"}, {"(min 0) (0 max)", "(min max)"}, {"(min 5) (-5 max)", "(min max)"}, {"(1 3) (2 5) (4 8) (10 11)", "(1 8) (10 11)"},
		// Side by side, with no integer between them.
		{"(1 3) (4 6)", "(1 6)"}, {"(4 6) (1 3)", "(1 6)"}, {"(1 1) (2 2) (3 3)", "(1 3)"}, {"(min -1) (0 max)", "(min max)"}, {"(min min) (min+1 max)", "(min max)"}, {"(min max-1) (max max)", "(min max)"}, {"(max max) (max-1 max-1)", "(max-1 max)"}, {"(min+1 min+1) (min min)", "(min min+1)"}, {"(-1 -1) (0 0)", "(-1 0)"},
		// And with one.
		{"(5 6) (1 3)", "(1 3) (5 6)"}, {"(1 3) (5 6) (4 4)", "(1 6)"}, {"(5 6) (1 3) (8 9)", "(1 3) (5 6) (8 9)"}, {"(max max) (max-2 max-2)", "(max-2 max-2) (max max)"}, {"(min+2 min+2) (min min)", "(min min) (min+2 min+2)"}, {"(max max) (min max-2)", "(min max-2) (max max)"},
	} {
		s, want := set(t, x.text), set(t, x.want)
		if spans.Right(s) {
			t.Errorf("%s is normalized", x.text)
		}
		for _, l := range written(s) {
			holdOne(t, l)
			if got := spans.Norm(l); !slices.Equal(got, want) {
				t.Errorf("%s is %s, not %s", shown(l), shown(got), x.want)
			}
		}
	}
}

// P11.1: no range at all, be the list nil or not.
func TestNoRange(t *testing.T) {
	for _, s := range [][]api.Range{nil, {}} {
		if !spans.Right(s) || len(spans.Norm(s)) != 0 {
			t.Error(spans.Right(s), spans.Norm(s))
		}
		for _, n := range []int{0, 1, -1, math.MinInt, math.MaxInt} {
			if spans.Has(s, n) {
				t.Error(n)
			}
		}
		for _, other := range [][]api.Range{nil, {}, {{Lo: 1, Hi: 0}}, {{Lo: math.MaxInt, Hi: math.MinInt}, {Lo: 5, Hi: 4}}} {
			for _, c := range calls() {
				if got := c.of(s, other); len(got) != 0 {
					t.Error(c.name, other, got)
				}
				if got := c.of(other, s); len(got) != 0 {
					t.Error(c.name, other, got)
				}
			}
		}
	}
}

// P11.1: integers that are in a set, and that are not.
func TestHas(t *testing.T) {
	for _, x := range []struct {
		text    string
		in, out []string
	}{
		{"", nil, []string{"0", "1", "-1", "min", "max"}},
		{"(0 0)", []string{"0"}, []string{"1", "-1", "min", "max"}},
		{"(3 7)", []string{"3", "4", "5", "6", "7"}, []string{"2", "8", "0", "-3", "-5", "-7", "min", "max"}},
		{"(-7 -3)", []string{"-3", "-5", "-7"}, []string{"-2", "-8", "0", "3", "5", "min", "max"}},
		{"(1 2) (5 9)", []string{"1", "2", "5", "7", "9"}, []string{"0", "3", "4", "10", "min", "max"}},
		{"(1 1) (3 3) (5 5) (7 7)", []string{"1", "3", "5", "7"}, []string{"0", "2", "4", "6", "8"}},
		{"(min max)", []string{"0", "1", "-1", "min", "min+1", "max-1", "max"}, nil},
		{"(min -5) (5 max)", []string{"min", "min+1", "-6", "-5", "5", "6", "max-1", "max"}, []string{"-4", "0", "4"}},
		{"(min min)", []string{"min"}, []string{"min+1", "0", "max-1", "max"}},
		{"(max max)", []string{"max"}, []string{"max-1", "0", "min+1", "min"}},
		{"(min+1 max-1)", []string{"min+1", "0", "max-1"}, []string{"min", "max"}},
		// Sets that are not normalized.
		{"(5 3)", nil, []string{"2", "3", "4", "5", "6", "min", "max"}},
		{"(max min)", nil, []string{"min", "-1", "0", "1", "max"}},
		{"(5 9) (1 2)", []string{"1", "2", "5", "9"}, []string{"0", "3", "4", "10"}},
		{"(1 2) (3 4)", []string{"1", "2", "3", "4"}, []string{"0", "5"}},
		{"(1 9) (2 3) (8 12)", []string{"1", "2", "5", "9", "10", "12"}, []string{"0", "13"}},
		{"(1 2) (5 3) (4 4) (1 2)", []string{"1", "2", "4"}, []string{"0", "3", "5"}},
		{"(max max) (0 0) (min min)", []string{"min", "0", "max"}, []string{"min+1", "-1", "1", "max-1"}},
		{"(9 9) (1 1) (max min) (5 5)", []string{"1", "5", "9"}, []string{"0", "2", "4", "6", "8", "10", "min", "max"}},
	} {
		for _, l := range append(written(set(t, x.text)), spans.Norm(set(t, x.text))) {
			for _, n := range x.in {
				if !spans.Has(l, end(t, n)) {
					t.Errorf("%s has not %s", shown(l), n)
				}
			}
			for _, n := range x.out {
				if spans.Has(l, end(t, n)) {
					t.Errorf("%s has %s", shown(l), n)
				}
			}
		}
	}
}

// P11.1: all integers, of which each caller has a list of its own.
func TestWhole(t *testing.T) {
	want := []api.Range{{Lo: -1 << 63, Hi: 1<<63 - 1}}
	for range 3 {
		got := spans.Whole()
		if !slices.Equal(got, want) || !spans.Right(got) {
			t.Fatal(got)
		}
		holdOne(t, got)
		for _, n := range []int{-1 << 63, -1, 0, 1, 1<<63 - 1} {
			if !spans.Has(got, n) {
				t.Error(n)
			}
		}
		spoil(got)
	}
}

// P11.1: all lists of up to three ranges between few integers, at both ends of
// the integers and about 0, and with both ends at once.
func TestEachOne(t *testing.T) {
	for _, ends := range places() {
		for _, l := range lists(ends, 2) {
			holdOne(t, l)
			if len(l) < 2 {
				continue
			}
			for _, r := range ranges(ends) {
				holdOne(t, append(slices.Clone(l), r))
			}
		}
	}
}
