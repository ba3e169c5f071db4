package scope_test

import (
	"fmt"
	"regexp"
	"slices"
	"strings"
	"testing"

	"spandrel/api"
	"spandrel/parse"
	"spandrel/scope"
	"spandrel/shape"
)

// modules are the modules of a text, which has a line for each of them, such as
// "M: A ::= NULL", or "M auto: A ::= NULL" with automatic tags.
func modules(t *testing.T, text string) []api.Module {
	t.Helper()
	var l []api.Module
	for line := range strings.Lines(text) {
		head, body, _ := strings.Cut(line, ":")
		name, auto := strings.CutSuffix(head, " auto")
		tags := map[bool]string{true: "AUTOMATIC TAGS"}[auto]
		m, at, e := parse.Module([]byte(fmt.Sprintf("%s DEFINITIONS %s ::= BEGIN %s END", name, tags, body)))
		if e != api.OK {
			t.Fatalf("%q: %d %d", line, at, e)
		}
		l = append(l, m)
	}
	return l
}

// dotted is a full name in a text.
var dotted = regexp.MustCompile(`\b([A-Z][A-Za-z0-9-]*)\.([A-Z])`)

// typ is the type of a text with full names in it.
func typ(t *testing.T, text string) api.Type {
	t.Helper()
	x, at, e := parse.Type([]byte(dotted.ReplaceAllString(text, "$1-dot-$2")))
	if e != api.OK {
		t.Fatalf("%q: %d %d", text, at, e)
	}
	refs(&x, func(r *api.Type) { r.Name = strings.ReplaceAll(r.Name, "-dot-", ".") })
	return x
}

// refs visits all Refs in a type, and the type itself if it is one.
func refs(t *api.Type, visit func(*api.Type)) {
	if t.Kind == api.Ref {
		visit(t)
	}
	for k := range t.Elem {
		refs(&t.Elem[k], visit)
	}
	for _, parts := range [][]api.Part{t.Parts, t.Adds} {
		for k := range parts {
			refs(&parts[k].T, visit)
		}
	}
}

// entries are the entries of a text, which has a line for each of them, such as
// "M.A ::= NULL", or "auto M.A ::= NULL".
func entries(t *testing.T, text string) []api.Entry {
	t.Helper()
	var l []api.Entry
	for line := range strings.Lines(text) {
		line, auto := strings.CutPrefix(strings.TrimSpace(line), "auto ")
		name, body, _ := strings.Cut(line, " ::= ")
		module, own, _ := strings.Cut(name, ".")
		l = append(l, api.Entry{Module: module, Name: own, Auto: auto, T: typ(t, body)})
	}
	return l
}

// sameEntries tells whether two lists have the same entries.
func sameEntries(a, b []api.Entry) bool {
	return slices.EqualFunc(a, b, func(x, y api.Entry) bool {
		return x.Module == y.Module && x.Name == y.Name && x.Auto == y.Auto && shape.Same(x.T, y.T)
	})
}

// shown is a text that tells what modules, or entries, are.
func shown(l any) string {
	s := fmt.Sprintf("%+v", l)
	return s[:min(len(s), 3000)]
}

// hold holds all that Resolve answers against entries and an error, and against
// the model and P10.3.
func hold(t *testing.T, l []api.Module, want []api.Entry, e api.Errno) {
	t.Helper()
	before := fmt.Sprintf("%#v", l)
	got, gotE := scope.Resolve(l)
	if gotE != e || !sameEntries(got, want) {
		t.Fatalf("%s:\n%s %d, not\n%s %d", shown(l), shown(got), gotE, shown(want), e)
	}
	if fmt.Sprintf("%#v", l) != before {
		t.Fatalf("%.3000s has become %s", before, shown(l))
	}
	if model, modelE := modelResolve(l); modelE != e || !sameEntries(model, want) {
		t.Fatalf("%s: the model says %s %d", shown(l), shown(model), modelE)
	}
	if e != api.OK {
		return
	}
	if !scope.Finite(got) {
		t.Fatalf("%s is not finite", shown(got))
	}
	for _, x := range got {
		refs(&x.T, func(r *api.Type) {
			if scope.Find(got, r.Name) < 0 {
				t.Fatalf("%s: %s is not found", shown(got), r.Name)
			}
		})
	}
}

// orders are the modules in some orders: as they are, the other way round, and
// the first one behind all others.
func orders(l []api.Module) [][]api.Module {
	turned, moved := slices.Clone(l), slices.Clone(l)
	slices.Reverse(turned)
	if len(l) > 0 {
		moved = append(moved[1:], l[0])
	}
	return [][]api.Module{l, turned, moved}
}

// inOrder are those of some entries that are of modules, module by module.
func inOrder(l []api.Module, of []api.Entry) []api.Entry {
	var sorted []api.Entry
	for _, m := range l {
		for _, e := range of {
			if e.Module == m.Name {
				sorted = append(sorted, e)
			}
		}
	}
	return sorted
}

// check holds what Resolve answers for the modules of a text, in several orders,
// against the entries of another.
func check(t *testing.T, text, want string) {
	t.Helper()
	l, all := modules(t, text), entries(t, want)
	hold(t, l, all, api.OK)
	for _, order := range orders(l) {
		hold(t, order, inOrder(order, all), api.OK)
	}
}

// checkWrong holds what Resolve answers for the modules of a text, in several
// orders, and among others, against an error.
func checkWrong(t *testing.T, text string, e api.Errno) {
	t.Helper()
	l := modules(t, text)
	others := modules(t, "Other1: A ::= B B ::= NULL Z ::= SEQUENCE OF Z\nOther2 auto: IMPORTS Z FROM Other1; A ::= NULL Y ::= CHOICE { z Z }")
	for _, order := range append(orders(l), append(slices.Clone(l), others...), append(slices.Clone(others), l...)) {
		hold(t, order, nil, e)
	}
}
