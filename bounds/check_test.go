package bounds_test

import (
	"fmt"
	"slices"
	"testing"

	"spandrel/api"
	"spandrel/bounds"
	"spandrel/spans"
)

// Constraints of each Op.
func span(lo, hi int) api.Con          { return api.Con{Op: api.Span, Lo: lo, Hi: hi} }
func one(n int) api.Con                { return span(n, n) }
func upTo(hi int) api.Con              { return api.Con{Op: api.Span, Low: true, Hi: hi} }
func upFrom(lo int) api.Con            { return api.Con{Op: api.Span, Lo: lo, High: true} }
func union(l ...api.Con) api.Con       { return api.Con{Op: api.Union, L: l} }
func meet(l ...api.Con) api.Con        { return api.Con{Op: api.Meet, L: l} }
func except(l ...api.Con) api.Con      { return api.Con{Op: api.Except, L: l} }
func con(op int, l ...api.Con) api.Con { return api.Con{Op: op, L: l} }

// combinations are the Ops of constraints with elements, and otherOps are none at
// all.
var (
	combinations = []int{api.Union, api.Meet, api.Except}
	otherOps     = []int{-1, 5, 6, 9, -4, 1 << 32, least, most}
)

// markCon and markRange stand behind a list, in the same room.
var (
	markCon   = api.Con{Op: 77, Lo: 78, Hi: 79, Low: true}
	markRange = api.Range{Lo: 79, Hi: 11}
)

// guardedSet is a copy of a set, with a mark behind it.
func guardedSet(s []api.Range) []api.Range {
	return append(slices.Clone(s), markRange)[:len(s)]
}

// isIntactSet tells whether a guarded set is what it was, and so is the mark.
func isIntactSet(got, s []api.Range) bool {
	return slices.Equal(got, s) && got[:len(s)+1][len(s)] == markRange
}

// guardedCon is a copy of a constraint, in which a mark stands behind each list.
func guardedCon(c api.Con) api.Con {
	l := make([]api.Con, 0, len(c.L)+1)
	for _, e := range c.L {
		l = append(l, guardedCon(e))
	}
	c.L = append(l, markCon)[:len(l)]
	return c
}

// isSame tells whether two constraints are the same, beside their elements.
func isSame(a, b api.Con) bool {
	return a.Op == b.Op && a.Lo == b.Lo && a.Hi == b.Hi && a.Low == b.Low && a.High == b.High && len(a.L) == len(b.L)
}

// isIntactCon tells whether a guarded constraint is what it was, and so are the
// marks.
func isIntactCon(got, c api.Con) bool {
	return isSame(got, c) && isSame(got.L[:len(c.L)+1][len(c.L)], markCon) && slices.EqualFunc(got.L, c.L, isIntactCon)
}

// spoil fills a list, and the room behind it, with what it was not.
func spoil(l []api.Range) {
	l = l[:cap(l)]
	for k := range l {
		l[k] = api.Range{Lo: 1000 + k, Hi: 2000 - k}
	}
}

// shown is a text that tells what something is.
func shown(x ...any) string {
	s := fmt.Sprint(x...)
	return s[:min(len(s), 3000)]
}

// hold holds what Set answers, that it changes no argument, and that its answer
// shares nothing with them, nor with the next answer.
func hold(t *testing.T, c api.Con, parent, want []api.Range) {
	t.Helper()
	l, p := guardedCon(c), guardedSet(parent)
	for range 2 {
		got := bounds.Set(l, p)
		if !slices.Equal(got, want) || !spans.Right(got) {
			t.Fatalf("of %s, %s admits %s, not %s", shown(parent), shown(c), shown(got), shown(want))
		}
		spoil(got)
		if !isIntactCon(l, c) || !isIntactSet(p, parent) {
			t.Fatalf("%s, %s: an argument is changed, or shared", shown(c), shown(parent))
		}
	}
}

// holdModel is hold with what the model says.
func holdModel(t *testing.T, c api.Con, parent []api.Range) {
	t.Helper()
	hold(t, c, parent, modelSet(c, parent))
}

// parents are sets with few and with many integers, normalized and not.
func parents() [][]api.Range {
	return [][]api.Range{
		nil, {}, set(5, 4), set(most, least, 3, 2),
		set(least, most), set(0, most), set(least, -1), set(0, most, least, -1), set(least, most, 3, 5, 4, 2),
		set(1, 7), set(5, 7, 1, 3, 4, 4), set(1, 1, 3, 3, 5, 5), set(9, 9, 5, 5, 1, 1), set(4, 20, 0, 6, 2, 3, 9, 8),
		set(-3, 0), set(0, 0), set(least, least), set(most, most), set(most, most, least, least), set(-9, -5, 5, 9),
	}
}

// holdOf holds what Of answers, and that it changes nothing in the type.
func holdOf(t *testing.T, x api.Type, want []api.Range, is bool) {
	t.Helper()
	c := x.Con
	x.Con = guardedCon(c)
	before := shown(x)
	for range 2 {
		got, ok := bounds.Of(x)
		if !slices.Equal(got, want) || ok != is || !spans.Right(got) {
			t.Fatalf("%s has the set %s %v, not %s %v", before, shown(got), ok, shown(want), is)
		}
		spoil(got)
		if shown(x) != before || !isIntactCon(x.Con, c) {
			t.Fatalf("%s has become %s", before, shown(x))
		}
	}
}

// holdCheck holds what Check answers, and that it changes nothing in the type.
func holdCheck(t *testing.T, x api.Type, want api.Errno) {
	t.Helper()
	before := fmt.Sprintf("%#v", x)
	for range 2 {
		if got := bounds.Check(x); got != want {
			t.Fatalf("%.3000s is %d, not %d", before, got, want)
		}
	}
	if fmt.Sprintf("%#v", x) != before {
		t.Fatalf("%.3000s has become %s", before, shown(x))
	}
}
