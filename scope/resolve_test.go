package scope_test

import (
	"fmt"
	"reflect"
	"regexp"
	"strings"
	"testing"

	"spandrel/api"
	"spandrel/scope"
)

// P10.1: what names denote, and in which order the entries are.
func TestResolve(t *testing.T) {
	for _, x := range []struct{ text, want string }{
		// The chapter's examples.
		{"M: A ::= B B ::= NULL", "M.A ::= M.B\nM.B ::= NULL"},
		{"M: A ::= SEQUENCE OF A", "M.A ::= SEQUENCE OF M.A"},
		{"", ""},
		{"M:", ""},
		{"M:\nN auto:", ""},
		{"M: A ::= NULL", "M.A ::= NULL"},
		{"M auto: A ::= NULL", "auto M.A ::= NULL"},
		{"M-1: B-2 ::= A-3 A-3 ::= NULL", "M-1.B-2 ::= M-1.A-3\nM-1.A-3 ::= NULL"},
		// Entries in the order in which they are defined, with the Auto of their module.
		{"M: C ::= NULL A ::= BOOLEAN B ::= INTEGER", "M.C ::= NULL\nM.A ::= BOOLEAN\nM.B ::= INTEGER"},
		{"N: B ::= NULL A ::= NULL\nM auto: D ::= NULL C ::= NULL\nL: A ::= BOOLEAN", "N.B ::= NULL\nN.A ::= NULL\nauto M.D ::= NULL\nauto M.C ::= NULL\nL.A ::= BOOLEAN"},
		{"M:\nN: A ::= NULL\nO:\nP: A ::= BOOLEAN\nQ:", "N.A ::= NULL\nP.A ::= BOOLEAN"},
		// Refs of Refs.
		{"M: A ::= B B ::= C C ::= D D ::= NULL", "M.A ::= M.B\nM.B ::= M.C\nM.C ::= M.D\nM.D ::= NULL"},
		{"M: D ::= NULL C ::= D B ::= C A ::= B", "M.D ::= NULL\nM.C ::= M.D\nM.B ::= M.C\nM.A ::= M.B"},
		{"M: IMPORTS B FROM N; A ::= B C ::= D D ::= NULL\nN: IMPORTS C FROM M; B ::= C", "M.A ::= N.B\nM.C ::= M.D\nM.D ::= NULL\nN.B ::= M.C"},
		// The same name in several modules.
		{"M: A ::= B B ::= NULL\nN: A ::= B B ::= BOOLEAN", "M.A ::= M.B\nM.B ::= NULL\nN.A ::= N.B\nN.B ::= BOOLEAN"},
		{"M: A ::= SEQUENCE OF B B ::= NULL\nN: B ::= BOOLEAN\nO: B ::= C C ::= INTEGER", "M.A ::= SEQUENCE OF M.B\nM.B ::= NULL\nN.B ::= BOOLEAN\nO.B ::= O.C\nO.C ::= INTEGER"},
		{"A: A ::= B B ::= NULL\nB: IMPORTS A FROM A; B ::= A", "A.A ::= A.B\nA.B ::= NULL\nB.B ::= A.A"},
		// Imports.
		{"M: IMPORTS A FROM N; B ::= A\nN: A ::= NULL", "M.B ::= N.A\nN.A ::= NULL"},
		{"M: IMPORTS A FROM N;\nN: A ::= NULL", "N.A ::= NULL"},
		{"M: IMPORTS A FROM N; B ::= NULL\nN: IMPORTS B FROM M; A ::= SEQUENCE { b B }", "M.B ::= NULL\nN.A ::= SEQUENCE { b M.B }"},
		{
			"M: IMPORTS X, Y FROM N Z FROM O; A ::= SEQUENCE { x X, y Y, z Z }\nN: X ::= NULL Y ::= Z Z ::= BOOLEAN\nO auto: Z ::= X X ::= INTEGER",
			"M.A ::= SEQUENCE { x N.X, y N.Y, z O.Z }\nN.X ::= NULL\nN.Y ::= N.Z\nN.Z ::= BOOLEAN\nauto O.Z ::= O.X\nauto O.X ::= INTEGER",
		},
		{
			"M: IMPORTS C, A, B FROM N D FROM O E FROM N; X ::= A Y ::= B Z ::= C V ::= D W ::= E\nN: A ::= NULL B ::= BOOLEAN C ::= INTEGER D ::= NULL E ::= A\nO: D ::= A A ::= OCTET STRING",
			"M.X ::= N.A\nM.Y ::= N.B\nM.Z ::= N.C\nM.V ::= O.D\nM.W ::= N.E\nN.A ::= NULL\nN.B ::= BOOLEAN\nN.C ::= INTEGER\nN.D ::= NULL\nN.E ::= N.A\nO.D ::= O.A\nO.A ::= OCTET STRING",
		},
		// A name that several modules import.
		{
			"M: IMPORTS A FROM O; B ::= A\nN: IMPORTS A FROM O; B ::= A C ::= SEQUENCE OF B\nO: A ::= NULL B ::= A",
			"M.B ::= O.A\nN.B ::= O.A\nN.C ::= SEQUENCE OF N.B\nO.A ::= NULL\nO.B ::= O.A",
		},
		// Modules that import from each other in a ring.
		{
			"M: IMPORTS B FROM N; A ::= SEQUENCE OF B\nN: IMPORTS C FROM O; B ::= SEQUENCE { c C OPTIONAL }\nO: IMPORTS A FROM M; C ::= CHOICE { a A }",
			"M.A ::= SEQUENCE OF N.B\nN.B ::= SEQUENCE { c O.C OPTIONAL }\nO.C ::= CHOICE { a M.A }",
		},
	} {
		check(t, x.text, x.want)
	}
	for _, l := range [][]api.Module{nil, {}} {
		hold(t, l, nil, api.OK)
	}
}

// forms are types of each kind, with each field and each default, in which Refs
// name A and B. Names are used again where they may be.
func forms() []string {
	return []string{
		"BOOLEAN", "NULL", "INTEGER", "INTEGER (5)", "INTEGER (MIN..-3 | (7 ^ 8..MAX), ...)", "INTEGER ((1 | 2) EXCEPT (3 | 4))",
		"ENUMERATED { a }", "ENUMERATED { a, b, c }", "ENUMERATED { a, ... }", "ENUMERATED { a, b, ..., c, d }",
		"BIT STRING", "BIT STRING (SIZE (1..8, ...))", "OCTET STRING (SIZE (3 | 5))", "IA5String", `IA5String (FROM ("ab"))`, `IA5String (FROM ("xyz")) (SIZE (0..MAX, ...))`,
		"A", "B", "SEQUENCE OF A", "SEQUENCE (SIZE (1..MAX)) OF B", "SEQUENCE (SIZE (0 | 3, ...)) OF SEQUENCE OF B",
		"SEQUENCE { }", "SEQUENCE { ... }", "SEQUENCE { a A, b B }", "SEQUENCE { a A OPTIONAL, b B, c NULL, d BOOLEAN OPTIONAL }", "SEQUENCE { ..., a A, b B OPTIONAL }", "SEQUENCE { a A, ..., b B, c A }",
		"SEQUENCE { a BOOLEAN DEFAULT TRUE, b BOOLEAN DEFAULT FALSE, c INTEGER DEFAULT -7, d ENUMERATED { a, b } DEFAULT b, ..., e IA5String DEFAULT \"x\"\"y\", f A DEFAULT a }",
		"CHOICE { a A }", "CHOICE { a A, b B, c NULL }", "CHOICE { a NULL, ... }", "CHOICE { a A, ..., b B, c SEQUENCE OF A }",
		// Names that are the same are in different types.
		"SEQUENCE { a SEQUENCE { a A, b NULL }, b SEQUENCE { a B, b NULL } }", "SEQUENCE { a ENUMERATED { a, b }, b ENUMERATED { a, b, ..., c }, c CHOICE { a NULL, b A, ..., c B } }",
		"CHOICE { a CHOICE { a CHOICE { a A } }, ..., b SEQUENCE { ..., a SEQUENCE { a B } } }", "SEQUENCE OF SEQUENCE { of SEQUENCE OF CHOICE { of A } }",
	}
}

// ab is a name A or B in a text.
var ab = regexp.MustCompile(`\b[AB]\b`)

// P10.1: Refs in each place of each form of a type, with full names in the
// entries; all else is as it was.
func TestForms(t *testing.T) {
	fullNames := map[string]string{"A": "N.A", "B": "M.B"}
	for _, s := range forms() {
		full := ab.ReplaceAllStringFunc(s, func(name string) string { return fullNames[name] })
		check(t, "M: IMPORTS A FROM N; X ::= "+s+" B ::= BOOLEAN Y ::= "+s+"\nN: A ::= NULL", "M.X ::= "+full+"\nM.B ::= BOOLEAN\nM.Y ::= "+full+"\nN.A ::= NULL")
		check(t, "M auto: IMPORTS A FROM N; B ::= NULL X ::= "+s+"\nN: A ::= BOOLEAN X ::= INTEGER", "auto M.B ::= NULL\nauto M.X ::= "+full+"\nN.A ::= BOOLEAN\nN.X ::= INTEGER")
	}
}

// wraps are ways to nest a type in another one, which is finite if the type is.
var wraps = [][2]string{
	{"SEQUENCE OF ", ""}, {"SEQUENCE (SIZE (1..5, ...)) OF ", ""},
	{"SEQUENCE { a ", " }"}, {"SEQUENCE { a NULL, b ", " OPTIONAL, c NULL }"}, {"SEQUENCE { a ", " DEFAULT 5, b NULL }"},
	{"SEQUENCE { ..., a ", " }"}, {"SEQUENCE { a NULL, ..., b NULL, c ", ", d NULL }"},
	{"CHOICE { a ", " }"}, {"CHOICE { a NULL, b ", ", ..., c NULL }"}, {"CHOICE { a NULL, ..., b ", " }"}, {"CHOICE { a NULL, ..., b NULL, c ", " }"},
}

// nested is a type nested in others, with as many types around it as this: by
// one of the ways, or by all in turn.
func nested(s string, way, levels int) string {
	for level := range levels {
		w := wraps[(way+level)%len(wraps)]
		if way < len(wraps) {
			w = wraps[way]
		}
		s = w[0] + s + w[1]
	}
	return s
}

// P10.1: a Ref at any depth; one that denotes no type, and names that are not
// distinct, at any depth.
func TestDepths(t *testing.T) {
	for way := range len(wraps) + 3 {
		for _, levels := range []int{0, 1, 2, 3, 4, 7, 20, 38, 39} {
			own, imported := nested("B", way, levels), nested("A", way, levels)
			check(t,
				"M: IMPORTS A FROM N; X ::= "+own+" Y ::= "+imported+" B ::= BOOLEAN\nN auto: A ::= NULL",
				"M.X ::= "+nested("M.B", way, levels)+"\nM.Y ::= "+nested("N.A", way, levels)+"\nM.B ::= BOOLEAN\nauto N.A ::= NULL")
			checkWrong(t, "M: X ::= "+own, api.ErrName)
			checkWrong(t, "M: B ::= NULL X ::= "+own+" Y ::= "+imported, api.ErrName)
			checkWrong(t, "M: B ::= NULL X ::= "+own+"\nN: X ::= "+own, api.ErrName)
			checkWrong(t, "M: IMPORTS A FROM N; X ::= "+imported+" Y ::= NULL\nN: A ::= "+own, api.ErrName)
			for _, s := range clashes {
				if levels < 38 {
					checkWrong(t, "M: B ::= NULL X ::= "+nested(s, way, levels)+" Y ::= NULL", api.ErrName)
				}
			}
		}
	}
}

// P10.1: 256 modules, and more.
func TestManyModules(t *testing.T) {
	for _, n := range []int{1, 2, 255, 256, 257, 258, 1000} {
		var text, want strings.Builder
		for k := range n - 1 {
			fmt.Fprintf(&text, "M%d: IMPORTS A%d FROM M%d; A%d ::= A%d\n", k, k+1, k+1, k, k+1)
			fmt.Fprintf(&want, "M%d.A%d ::= M%d.A%d\n", k, k, k+1, k+1)
		}
		last := fmt.Sprintf("M%d auto: A%d ::= ", n-1, n-1)
		fmt.Fprintf(&want, "auto M%d.A%d ::= NULL", n-1, n-1)
		right, deep := modules(t, text.String()+last+"NULL"), modules(t, text.String()+last+fmt.Sprintf("A%d", n-1))
		empty, wrong := make([]api.Module, n), modules(t, strings.Repeat("M:\n", n))
		if n > api.MaxNames {
			for _, l := range [][]api.Module{right, deep, empty, wrong} {
				hold(t, l, nil, api.ErrArg)
			}
			continue
		}
		for _, order := range orders(right) {
			hold(t, order, inOrder(order, entries(t, want.String())), api.OK)
		}
		hold(t, deep, nil, api.ErrDeep)
		hold(t, empty, nil, api.ErrArg)
		if n > 1 {
			hold(t, wrong, nil, api.ErrName)
		}
	}
}

// linked are the modules of n types, 256 in each, all of which are Refs: each one
// names the type as many places further on, or ahead, as this, in a ring.
func linked(n, step int) []api.Module {
	name := func(k int) string { return fmt.Sprintf("T%d", k) }
	module := func(k int) string { return fmt.Sprintf("M%d", k/256) }
	var l []api.Module
	for k := range n {
		if k%256 == 0 {
			l = append(l, api.Module{Name: module(k)})
		}
		m, next := &l[k/256], (k+step+n)%n
		if module(next) != m.Name {
			m.Imports = append(m.Imports, api.Import{Names: []string{name(next)}, From: module(next)})
		}
		m.Defs = append(m.Defs, api.Def{Name: name(k), T: ref(name(next))})
	}
	return l
}

// P10.1: as many types as can be, in as many modules as can be. The model takes
// too long for them.
func TestMostTypes(t *testing.T) {
	const n = 256 * 256
	for _, step := range []int{1, -1, 255, 256, -257} {
		l := linked(n, step)
		got, e := scope.Resolve(l)
		if e != api.ErrDeep || len(got) != 0 {
			t.Errorf("%d: %d entries, %d", step, len(got), e)
		}
		// Where the ring is open, all is finite.
		for k := range l {
			for j := range 256 {
				if at := 256*k + j; at+step < 0 || at+step >= n {
					l[k].Defs[j].T = api.Type{Kind: api.Null}
				}
			}
		}
		got, e = scope.Resolve(l)
		if e != api.OK || len(got) != n {
			t.Fatalf("%d: %d entries, %d", step, len(got), e)
		}
		for k := range got {
			next := k + step
			want := entry(fmt.Sprintf("M%d", k/256), fmt.Sprintf("T%d", k), ref(fmt.Sprintf("M%d.T%d", next/256, next)))
			if next < 0 || next >= n {
				want.T = api.Type{Kind: api.Null}
			}
			if !sameEntries(got[k:k+1], []api.Entry{want}) {
				t.Fatalf("%d: %+v, not %+v", step, got[k], want)
			}
		}
	}
}

// stamped gives all texts and numbers in a list's elements, at any depth, to
// stamp, in order, each with a number of its own.
func stamped(v reflect.Value, n *int, stamp func(reflect.Value, int)) {
	switch v.Kind() {
	case reflect.Struct:
		for k := range v.NumField() {
			stamped(v.Field(k), n, stamp)
		}
	case reflect.Slice:
		for k := range v.Len() {
			stamped(v.Index(k), n, stamp)
		}
	case reflect.String, reflect.Int:
		*n++
		stamp(v, *n)
	}
}

// overwrite sets all texts and numbers in a list, at any depth, and tells whether
// each of them has then what it was set to, so that no two lists share elements.
func overwrite(l any) bool {
	first, second, own := 0, 0, true
	stamped(reflect.ValueOf(l), &first, func(v reflect.Value, n int) {
		if v.Kind() == reflect.String {
			v.SetString(fmt.Sprint(n))
		} else {
			v.SetInt(int64(n))
		}
	})
	stamped(reflect.ValueOf(l), &second, func(v reflect.Value, n int) {
		own = own && (v.Kind() == reflect.String && v.String() == fmt.Sprint(n) || v.Kind() == reflect.Int && v.Int() == int64(n))
	})
	return own && first > 0
}

// R3: what Resolve answers shares no list with the modules, nor one with another.
func TestNewLists(t *testing.T) {
	for _, s := range forms() {
		l := modules(t, "M: IMPORTS A FROM N; X ::= "+s+" B ::= BOOLEAN Y ::= "+s+"\nN: A ::= NULL")
		// A list that stands in the modules twice stands in the entries twice.
		l[0].Defs[2].T = l[0].Defs[0].T
		before := fmt.Sprintf("%#v", l)
		got, _ := scope.Resolve(l)
		again, _ := scope.Resolve(l)
		if !overwrite(got) {
			t.Errorf("%q: lists in the answer are shared", s)
		}
		if fmt.Sprintf("%#v", l) != before {
			t.Errorf("%q: lists of the modules are in the answer", s)
		}
		want := fmt.Sprintf("%#v", again)
		overwrite(l)
		if fmt.Sprintf("%#v", again) != want {
			t.Errorf("%q: lists of the modules are in the answer", s)
		}
	}
}
