package spans_test

import (
	"math"
	"slices"
	"testing"

	"spandrel/api"
	"spandrel/spans"
)

// pair is two sets, and what they are combined to.
type pair struct{ a, b, union, meet, minus, turned string }

// pairs are rows by hand; the last two sets of each are the first set without the
// second, and the second without the first.
func pairs() []pair {
	return []pair{
		// The chapter's example.
		{"(1 9)", "(3 4)", "(1 9)", "(3 4)", "(1 2) (5 9)", ""},
		// No range on either side.
		{"", "", "", "", "", ""},
		{"(1 3)", "", "(1 3)", "", "(1 3)", ""},
		{"(1 3) (5 7)", "", "(1 3) (5 7)", "", "(1 3) (5 7)", ""},
		{"(5 7) (4 4) (1 2) (9 8)", "", "(1 2) (4 7)", "", "(1 2) (4 7)", ""},
		{"(1 0)", "(3 2) (max min)", "", "", "", ""},
		{"(1 3)", "(3 1)", "(1 3)", "", "(1 3)", ""},
		// A set and itself.
		{"(1 3)", "(1 3)", "(1 3)", "(1 3)", "", ""},
		{"(1 3) (5 7)", "(1 3) (5 7)", "(1 3) (5 7)", "(1 3) (5 7)", "", ""},
		{"(5 7) (1 3) (4 4)", "(1 7)", "(1 7)", "(1 7)", "", ""},
		{"(1 1) (9 9) (1 1)", "(9 9) (1 1)", "(1 1) (9 9)", "(1 1) (9 9)", "", ""},
		// Nothing in common: with a gap between them, and side by side.
		{"(1 3)", "(7 9)", "(1 3) (7 9)", "", "(1 3)", "(7 9)"},
		{"(1 3)", "(5 9)", "(1 3) (5 9)", "", "(1 3)", "(5 9)"},
		{"(1 3)", "(4 9)", "(1 9)", "", "(1 3)", "(4 9)"},
		{"(1 1) (3 3) (5 5)", "(2 2) (4 4)", "(1 5)", "", "(1 1) (3 3) (5 5)", "(2 2) (4 4)"},
		{"(1 2) (7 8)", "(4 5) (10 11)", "(1 2) (4 5) (7 8) (10 11)", "", "(1 2) (7 8)", "(4 5) (10 11)"},
		{"(1 2) (7 8)", "(3 3) (6 6)", "(1 3) (6 8)", "", "(1 2) (7 8)", "(3 3) (6 6)"},
		// One integer, or some, in common.
		{"(1 3)", "(3 9)", "(1 9)", "(3 3)", "(1 2)", "(4 9)"},
		{"(1 5)", "(3 9)", "(1 9)", "(3 5)", "(1 2)", "(6 9)"},
		{"(1 5) (9 12)", "(4 10)", "(1 12)", "(4 5) (9 10)", "(1 3) (11 12)", "(6 8)"},
		{"(1 3) (5 7) (9 11)", "(2 2) (6 9) (11 20)", "(1 3) (5 20)", "(2 2) (6 7) (9 9) (11 11)", "(1 1) (3 3) (5 5) (10 10)", "(8 8) (12 20)"},
		// One contains the other: the middle, an end, both ends, or all is taken.
		{"(1 9)", "(5 5)", "(1 9)", "(5 5)", "(1 4) (6 9)", ""},
		{"(1 9)", "(2 8)", "(1 9)", "(2 8)", "(1 1) (9 9)", ""},
		{"(1 9)", "(1 1)", "(1 9)", "(1 1)", "(2 9)", ""},
		{"(1 9)", "(9 9)", "(1 9)", "(9 9)", "(1 8)", ""},
		{"(1 9)", "(1 4)", "(1 9)", "(1 4)", "(5 9)", ""},
		{"(1 9)", "(6 9)", "(1 9)", "(6 9)", "(1 5)", ""},
		{"(1 9)", "(1 1) (9 9)", "(1 9)", "(1 1) (9 9)", "(2 8)", ""},
		{"(1 9)", "(1 4) (6 9)", "(1 9)", "(1 4) (6 9)", "(5 5)", ""},
		{"(1 9)", "(0 1) (9 10)", "(0 10)", "(1 1) (9 9)", "(2 8)", "(0 0) (10 10)"},
		{"(1 9)", "(2 2) (5 5) (8 8)", "(1 9)", "(2 2) (5 5) (8 8)", "(1 1) (3 4) (6 7) (9 9)", ""},
		{"(1 9)", "(0 10)", "(0 10)", "(1 9)", "", "(0 0) (10 10)"},
		{"(1 1) (3 3) (5 5)", "(1 5)", "(1 5)", "(1 1) (3 3) (5 5)", "", "(2 2) (4 4)"},
		{"(0 0)", "(-1 1)", "(-1 1)", "(0 0)", "", "(-1 -1) (1 1)"},
		{"(1 2) (4 5) (7 8)", "(4 5)", "(1 2) (4 5) (7 8)", "(4 5)", "(1 2) (7 8)", ""},
		// All integers, and both ends of them.
		{"(min max)", "", "(min max)", "", "(min max)", ""},
		{"(min max)", "(min max)", "(min max)", "(min max)", "", ""},
		{"(min max)", "(0 0)", "(min max)", "(0 0)", "(min -1) (1 max)", ""},
		{"(min max)", "(min min)", "(min max)", "(min min)", "(min+1 max)", ""},
		{"(min max)", "(max max)", "(min max)", "(max max)", "(min max-1)", ""},
		{"(min max)", "(min min) (max max)", "(min max)", "(min min) (max max)", "(min+1 max-1)", ""},
		{"(min max)", "(min+1 max-1)", "(min max)", "(min+1 max-1)", "(min min) (max max)", ""},
		{"(min max)", "(min -1)", "(min max)", "(min -1)", "(0 max)", ""},
		{"(min max)", "(0 max)", "(min max)", "(0 max)", "(min -1)", ""},
		{"(min max)", "(1 2) (5 9)", "(min max)", "(1 2) (5 9)", "(min 0) (3 4) (10 max)", ""},
		{"(min -1)", "(0 max)", "(min max)", "", "(min -1)", "(0 max)"},
		{"(min -1)", "(1 max)", "(min -1) (1 max)", "", "(min -1)", "(1 max)"},
		{"(min 5)", "(-5 max)", "(min max)", "(-5 5)", "(min -6)", "(6 max)"},
		{"(min min)", "(max max)", "(min min) (max max)", "", "(min min)", "(max max)"},
		{"(min min)", "(min+1 min+1)", "(min min+1)", "", "(min min)", "(min+1 min+1)"},
		{"(min min)", "(min min+1)", "(min min+1)", "(min min)", "", "(min+1 min+1)"},
		{"(max max)", "(max-1 max-1)", "(max-1 max)", "", "(max max)", "(max-1 max-1)"},
		{"(max max)", "(max-1 max)", "(max-1 max)", "(max max)", "", "(max-1 max-1)"},
		{"(max max)", "(max-2 max-2)", "(max-2 max-2) (max max)", "", "(max max)", "(max-2 max-2)"},
		{"(min max-2) (max max)", "(max-1 max-1)", "(min max)", "", "(min max-2) (max max)", "(max-1 max-1)"},
		{"(max min) (5 4)", "(min max)", "(min max)", "", "", "(min max)"},
		// Sets that are not normalized.
		{"(5 9) (1 6)", "(4 3) (3 3) (2 4) (3 3)", "(1 9)", "(2 4)", "(1 1) (5 9)", ""},
		{"(7 9) (1 3) (4 2) (4 4)", "(9 12) (3 4) (3 4)", "(1 4) (7 12)", "(3 4) (9 9)", "(1 2) (7 8)", "(10 12)"},
		{"(0 max) (min -1) (3 2)", "(5 5) (3 3) (4 4)", "(min max)", "(3 5)", "(min 2) (6 max)", ""},
		{"(1 2) (1 9) (2 3)", "(4 4) (5 5) (2 1) (6 6)", "(1 9)", "(4 6)", "(1 3) (7 9)", ""},
	}
}

// holdPair holds the combinations of two lists against a row.
func holdPair(t *testing.T, a, b []api.Range, x pair) {
	t.Helper()
	holdTwo(t, a, b)
	for _, y := range []struct {
		name, want string
		got        []api.Range
	}{
		{"Union", x.union, spans.Union(a, b)}, {"Meet", x.meet, spans.Meet(a, b)}, {"Minus", x.minus, spans.Minus(a, b)},
		{"Union, turned,", x.union, spans.Union(b, a)}, {"Meet, turned,", x.meet, spans.Meet(b, a)}, {"Minus, turned,", x.turned, spans.Minus(b, a)},
	} {
		if !slices.Equal(y.got, set(t, y.want)) {
			t.Errorf("%s of %s is %s, not %s", y.name, shown(a, b), shown(y.got), y.want)
		}
	}
}

// P11.2, P11.3: the rows, whatever lists the two sets are.
func TestPairs(t *testing.T) {
	for _, x := range pairs() {
		for _, a := range written(set(t, x.a)) {
			for _, b := range written(set(t, x.b)) {
				holdPair(t, a, b, x)
			}
		}
	}
}

// P11.1, P11.2: Whole with each set, and with itself.
func TestWholeWith(t *testing.T) {
	texts := []string{"(5 7) (1 3) (4 4)", "(1 0)"}
	for _, x := range pairs() {
		texts = append(texts, x.a, x.b, x.minus, x.union)
	}
	for _, text := range texts {
		for _, s := range written(set(t, text)) {
			all := spans.Whole()
			if got := spans.Union(s, all); !slices.Equal(got, all) {
				t.Errorf("Union of %s is %s", shown(s), shown(got))
			}
			if got := spans.Meet(all, s); !slices.Equal(got, spans.Norm(s)) {
				t.Errorf("Meet of %s is %s", shown(s), shown(got))
			}
			if got := spans.Minus(s, all); len(got) != 0 {
				t.Errorf("Minus of %s is %s", shown(s), shown(got))
			}
			if got := spans.Minus(all, spans.Minus(all, s)); !slices.Equal(got, spans.Norm(s)) {
				t.Errorf("all others of all others of %s are %s", shown(s), shown(got))
			}
			holdTwo(t, s, all)
			holdTwo(t, all, s)
		}
	}
	holdTwo(t, spans.Whole(), spans.Whole())
}

// R3, P11.2: two arguments that are one list, or share some of it.
func TestShared(t *testing.T) {
	for _, x := range pairs() {
		for _, s := range written(set(t, x.a+x.b)) {
			for k := range len(s) + 1 {
				l := guarded(s)
				for _, y := range [][2][]api.Range{{l, l}, {l[:k], l}, {l[k:], l}, {l[:k], l[k:]}, {l[k:], l[:k]}, {l[:k:k], l[k:]}} {
					for _, c := range calls() {
						want := modelSet(y[0], y[1], c.keep)
						got := c.of(y[0], y[1])
						if !slices.Equal(got, want) {
							t.Fatalf("%s of %s is %s, not %s", c.name, shown(y[:]...), shown(got), shown(want))
						}
						spoil(got)
						if !isIntact(l, s) {
							t.Fatalf("%s of %s has changed a list, or shares it", c.name, shown(s))
						}
					}
				}
			}
		}
	}
}

// places are some integers in order: the least ones, those about 0, the greatest
// ones, and the least and the greatest ones.
func places() [][]int {
	return [][]int{
		{math.MinInt, math.MinInt + 1, math.MinInt + 2, math.MinInt + 3},
		{-2, -1, 0, 1},
		{math.MaxInt - 3, math.MaxInt - 2, math.MaxInt - 1, math.MaxInt},
		{math.MinInt, math.MinInt + 1, math.MaxInt - 1, math.MaxInt},
	}
}

// ranges are all ranges with these ends, with those that are empty.
func ranges(ends []int) []api.Range {
	var l []api.Range
	for _, lo := range ends {
		for _, hi := range ends {
			l = append(l, api.Range{Lo: lo, Hi: hi})
		}
	}
	return l
}

// lists are all lists of up to so many ranges with these ends.
func lists(ends []int, most int) [][]api.Range {
	all := [][]api.Range{nil}
	from := 0
	for range most {
		upto := len(all)
		for _, l := range all[from:upto] {
			for _, r := range ranges(ends) {
				all = append(all, append(slices.Clone(l), r))
			}
		}
		from = upto
	}
	return all
}

// P11.2, P11.3: all lists of up to two ranges between few integers, each with
// each.
func TestEachTwo(t *testing.T) {
	for _, ends := range places() {
		all := lists(ends, 2)
		for _, a := range all {
			for _, b := range all {
				holdTwo(t, a, b)
			}
		}
	}
}
