package scope_test

import (
	"fmt"
	"strings"
	"testing"

	"spandrel/api"
	"spandrel/scope"
)

// checkFind holds the place that Find answers against the model, too.
func checkFind(t *testing.T, l []api.Entry, name string, want int) {
	t.Helper()
	before := fmt.Sprintf("%#v", l)
	if got, model := scope.Find(l, name), modelFind(l, name); got != want || model != want {
		t.Errorf("%q in %s: %d, the model says %d, not %d", name, shown(l), got, model, want)
	}
	if fmt.Sprintf("%#v", l) != before {
		t.Fatalf("%.3000s has become %s", before, shown(l))
	}
}

// P10.2: a full name that is there, twice, and not at all.
func TestFind(t *testing.T) {
	l := entries(t, "M.A ::= NULL\nM.B ::= M.A\nN.A ::= BOOLEAN\nauto MM.AA ::= M.C\nM.B ::= NULL\nN.A ::= NULL\nN.M ::= NULL")
	for name, want := range map[string]int{
		"M.A": 0, "M.B": 1, "N.A": 2, "MM.AA": 3, "N.M": 6,
		"": -1, ".": -1, "M": -1, "A": -1, "M.": -1, ".A": -1, "MA": -1, "M.C": -1, "N.B": -1, "M.AA": -1, "MM.A": -1, "M..A": -1, "M.A.": -1, ".M.A": -1, "M.A\x00": -1, "m.a": -1, "M A": -1, "M-A": -1, "M.A ": -1, "N.N": -1,
	} {
		checkFind(t, l, name, want)
		checkFind(t, nil, name, -1)
		checkFind(t, []api.Entry{}, name, -1)
	}
	// Whatever names consist of.
	long := strings.Repeat("x", 100000)
	l = nil
	for _, x := range [][2]string{{"M", "N.O"}, {"M.N", "O"}, {"", ""}, {"M", ""}, {"", "M"}, {".", "."}, {"é\xff", "\x00"}, {long, long}, {"", ".."}} {
		l = append(l, entry(x[0], x[1], api.Type{}))
	}
	for name, want := range map[string]int{"M.N.O": 0, "M.N": -1, ".": 2, "M.": 3, ".M": 4, "...": 5, "é\xff.\x00": 6, long + "." + long: 7, long: -1, long + ".": -1, "": -1, "..": -1, "M": -1, "O": -1, "N.O": -1} {
		checkFind(t, l, name, want)
	}
}

// P10.2: each entry of a resolved list is found where it is.
func TestFindAll(t *testing.T) {
	m := linked(768, 1)
	m[2].Defs[255].T = api.Type{Kind: api.Null}
	l, e := scope.Resolve(m)
	if e != api.OK || len(l) != 768 {
		t.Fatal(len(l), e)
	}
	for k := range l {
		if got := scope.Find(l, fmt.Sprintf("M%d.T%d", k/256, k)); got != k {
			t.Errorf("%d, not %d", got, k)
		}
		if got := scope.Find(l, fmt.Sprintf("M%d.T%d", k/256+1, k)); got != -1 {
			t.Errorf("%d: %d", k, got)
		}
	}
}
