package tags_test

import (
	"fmt"
	"reflect"
	"slices"
	"strings"
	"testing"

	"spandrel/api"
	"spandrel/parse"
	"spandrel/tags"
)

// typ is the type of a text in which a full name has a hyphen for its dot. An
// empty text is a type of no Kind, which has no tags.
func typ(t *testing.T, text string) api.Type {
	t.Helper()
	if text == "" {
		return api.Type{}
	}
	x, at, e := parse.Type([]byte(text))
	if e != api.OK {
		t.Fatalf("%q: %d %d", text, at, e)
	}
	return withDots(x)
}

// ref is a Ref, and choice a Choice of these types.
func ref(name string) api.Type { return api.Type{Kind: api.Ref, Name: name} }
func choice(l ...api.Type) api.Type {
	x := api.Type{Kind: api.Choice}
	for _, of := range l {
		x.Parts = append(x.Parts, api.Part{Name: "a", T: of})
	}
	return x
}

// withDots is a type in which the first hyphen of each Ref is a dot.
func withDots(x api.Type) api.Type {
	x.Name = strings.Replace(x.Name, "-", ".", 1)
	for k := range x.Elem {
		x.Elem[k] = withDots(x.Elem[k])
	}
	for _, parts := range [][]api.Part{x.Parts, x.Adds} {
		for k := range parts {
			parts[k].T = withDots(parts[k].T)
		}
	}
	return x
}

// entries are the entries of a text, which has a line for each of them, such as
// "M-A ::= NULL", or "auto M-A ::= NULL".
func entries(t *testing.T, text string) []api.Entry {
	t.Helper()
	var l []api.Entry
	for line := range strings.Lines(text) {
		line, auto := strings.CutPrefix(strings.TrimSpace(line), "auto ")
		name, body, _ := strings.Cut(line, " ::=")
		module, own, _ := strings.Cut(name, "-")
		l = append(l, api.Entry{Module: module, Name: own, Auto: auto, T: typ(t, strings.TrimSpace(body))})
	}
	return l
}

// withAuto are entries all of which have this Auto.
func withAuto(l []api.Entry, auto bool) []api.Entry {
	l = slices.Clone(l)
	for k := range l {
		l[k].Auto = auto
	}
	return l
}

// The marks stand behind each list, in the same room.
var (
	markType  = api.Type{Kind: api.Ref, Name: "mark"}
	markPart  = api.Part{Name: "mark", T: markType, Opt: true}
	markValue = api.Value{Kind: 77, S: "mark"}
	markEntry = api.Entry{Module: "mark", Auto: true, T: markType}
)

// guard is a copy of a list with a mark behind it.
func guard[E any](l []E, copyOf func(E) E, mark E) []E {
	c := make([]E, 0, len(l)+1)
	for _, e := range l {
		c = append(c, copyOf(e))
	}
	return append(c, mark)[:len(l)]
}

// guarded is a copy of a type with marks.
func guarded(x api.Type) api.Type {
	x.Parts, x.Adds = guard(x.Parts, guardedPart, markPart), guard(x.Adds, guardedPart, markPart)
	x.Elem = guard(x.Elem, guarded, markType)
	return x
}

func guardedPart(p api.Part) api.Part {
	p.T = guarded(p.T)
	p.Def = guard(p.Def, func(v api.Value) api.Value { return v }, markValue)
	return p
}

func guardedEntry(e api.Entry) api.Entry {
	e.T = guarded(e.T)
	return e
}

// opened is a copy of a type with marks, in which they stand in the lists.
func opened(x api.Type) api.Type {
	x.Parts, x.Adds = open(x.Parts, openedPart), open(x.Adds, openedPart)
	x.Elem = open(x.Elem, opened)
	return x
}

func openedPart(p api.Part) api.Part {
	p.T = opened(p.T)
	p.Def = slices.Clone(p.Def[:cap(p.Def)])
	return p
}

func openedEntry(e api.Entry) api.Entry {
	e.T = opened(e.T)
	return e
}

// open is a copy of a list, and of what stands behind it.
func open[E any](l []E, copyOf func(E) E) []E {
	c := slices.Clone(l[:cap(l)])
	for k := range l {
		c[k] = copyOf(c[k])
	}
	return c
}

// shown is a text that tells what something is.
func shown(x any) string {
	s := fmt.Sprintf("%+v", x)
	return s[:min(len(s), 3000)]
}

// holdTwice holds what a function makes of entries and a type, twice, and that it
// changes no argument, nor the room behind one, nor what it answered before.
func holdTwice[A any](t *testing.T, l []api.Entry, x api.Type, answer func([]api.Entry, api.Type) A, isRight func(A) bool) {
	t.Helper()
	gotL, gotX := guard(l, guardedEntry, markEntry), guarded(x)
	beforeL, beforeX := open(gotL, openedEntry), opened(gotX)
	for range 2 {
		if got := answer(gotL, gotX); !isRight(got) {
			t.Fatalf("%s\nof %s: %v", shown(x), shown(l), shown(got))
		}
		if !reflect.DeepEqual(open(gotL, openedEntry), beforeL) || !reflect.DeepEqual(opened(gotX), beforeX) {
			t.Fatalf("%s\nof %s: an argument is changed", shown(x), shown(l))
		}
	}
}

// holdList holds a list that a function makes of entries and a type, and that no
// other list shares room with it.
func holdList(t *testing.T, l []api.Entry, x api.Type, answer func([]api.Entry, api.Type) []int, want, model []int) {
	t.Helper()
	if !slices.Equal(model, want) {
		t.Fatalf("%s\nof %s: the model says %v, not %v", shown(x), shown(l), shown(model), shown(want))
	}
	holdTwice(t, l, x, answer, func(got []int) bool {
		is := slices.Equal(got, want)
		got = got[:cap(got)]
		for k := range got {
			got[k] = -7
		}
		return is
	})
}

// holdOf holds what Of answers.
func holdOf(t *testing.T, l []api.Entry, auto bool, x api.Type, want []int) {
	t.Helper()
	of := func(l []api.Entry, x api.Type) []int { return tags.Of(l, auto, x) }
	holdList(t, l, x, of, want, modelOf(l, auto, x))
}

// holdOrder holds what Order answers.
func holdOrder(t *testing.T, l []api.Entry, auto bool, x api.Type, want []int) {
	t.Helper()
	order := func(l []api.Entry, x api.Type) []int { return tags.Order(l, auto, x) }
	holdList(t, l, x, order, want, modelOrder(l, auto, x))
}

// holdCheck holds what Check answers.
func holdCheck(t *testing.T, l []api.Entry, want api.Errno) {
	t.Helper()
	if model := modelCheck(l); model != want {
		t.Fatalf("%s: the model says %d, not %d", shown(l), model, want)
	}
	check := func(l []api.Entry, _ api.Type) api.Errno { return tags.Check(l) }
	holdTwice(t, l, api.Type{}, check, func(got api.Errno) bool { return got == want })
}
