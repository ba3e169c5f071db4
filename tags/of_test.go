package tags_test

import (
	"math"
	"slices"
	"testing"

	"spandrel/api"
)

// otherKinds are numbers that are no Kind.
var otherKinds = []int{0, -1, -2, -10, 12, 13, 16, 22, 100, 1000, 1 << 32, 1<<32 + 1, 1<<32 + 10, math.MinInt, math.MaxInt}

// eachKind is a text of each Kind that has a universal tag, with its tag.
func eachKind() map[string]int {
	return map[string]int{
		"BOOLEAN": 1, "INTEGER": 2, "INTEGER (0..7, ...)": 2, "BIT STRING": 3, "OCTET STRING": 4, "OCTET STRING (SIZE (3))": 4, "NULL": 5,
		"ENUMERATED { a }": 10, "ENUMERATED { a, ..., b }": 10, "IA5String": 22, `IA5String (FROM ("ab"))`: 22,
		"SEQUENCE { }": 16, "SEQUENCE { ... }": 16, "SEQUENCE { a BOOLEAN, b NULL OPTIONAL, ..., c INTEGER }": 16,
		"SEQUENCE OF BOOLEAN": 16, "SEQUENCE (SIZE (1..5)) OF CHOICE { a NULL, b BOOLEAN }": 16,
	}
}

// automatic is as many automatic tags.
func automatic(count int) []int {
	var l []int
	for k := range count {
		l = append(l, 1000+k)
	}
	return l
}

// P13.1: each Kind but Choice and Ref, whatever auto is, alone, as a part of a
// Choice, and as an entry.
func TestOfKinds(t *testing.T) {
	for text, tag := range eachKind() {
		x := typ(t, text)
		for _, auto := range []bool{false, true} {
			holdOf(t, nil, auto, x, []int{tag})
			l := []api.Entry{{Module: "M", Name: "A", Auto: auto, T: x}}
			holdOf(t, l, auto, ref("M.A"), []int{tag})
			holdOf(t, l, !auto, ref("M.A"), []int{tag})
			holdOf(t, l, false, choice(x), []int{tag})
			holdOf(t, l, false, choice(ref("M.A"), x), []int{tag})
			holdOf(t, l, true, choice(ref("M.A"), x), automatic(2))
		}
	}
	// What a Kind is not to have does not matter.
	more := api.Type{Name: "M.A", Ext: true, From: "ab", Names: []string{"a"}, More: []string{"b"}, Parts: choice(typ(t, "NULL")).Parts, Adds: choice(typ(t, "NULL")).Parts, Elem: []api.Type{typ(t, "NULL")}, Con: api.Con{Op: api.Union}}
	l := entries(t, "M-A ::= BIT STRING")
	for kind, tag := range ofKind {
		for _, auto := range []bool{false, true} {
			more.Kind = kind
			holdOf(t, l, auto, more, []int{tag})
			holdOf(t, l, auto, api.Type{Kind: kind}, []int{tag})
		}
	}
	more.Kind = api.Ref
	holdOf(t, l, false, more, []int{3})
	holdOf(t, l, true, more, []int{3})
	for _, more.Kind = range otherKinds {
		for _, auto := range []bool{false, true} {
			holdOf(t, l, auto, more, nil)
			holdOf(t, l, auto, api.Type{Kind: more.Kind}, nil)
		}
		holdOf(t, l, false, choice(more), nil)
		holdOf(t, l, false, choice(more, ref("M.A"), more), []int{3})
		holdOf(t, l, true, choice(more), []int{1000})
		holdOf(t, []api.Entry{{Name: "A", T: more}}, false, ref(".A"), nil)
	}
}

// P13.1: a Choice, with and without automatic tagging.
func TestOfChoice(t *testing.T) {
	for _, x := range []struct {
		text string
		want []int
		// How many parts there are.
		parts int
	}{
		// The chapter's example.
		{"CHOICE { a NULL, b BOOLEAN }", []int{1, 5}, 2},
		{"CHOICE { a NULL }", []int{5}, 1},
		{"CHOICE { a NULL, ... }", []int{5}, 1},
		{"CHOICE { a NULL, ..., b BOOLEAN }", []int{1, 5}, 2},
		{"CHOICE { a IA5String, b NULL, ..., c ENUMERATED { a }, d BOOLEAN }", []int{1, 5, 10, 22}, 4},
		{"CHOICE { a NULL, b BOOLEAN, c NULL, ..., d BOOLEAN, e NULL }", []int{1, 5}, 5},
		{"CHOICE { a SEQUENCE OF NULL, b SEQUENCE { } }", []int{16}, 2},
		{
			"CHOICE { h IA5String, g SEQUENCE { a BOOLEAN }, f ENUMERATED { a }, e NULL, d OCTET STRING, c BIT STRING, b INTEGER, a BOOLEAN }",
			[]int{1, 2, 3, 4, 5, 10, 16, 22}, 8,
		},
		// In another Choice, as one of its Parts, and as one of its Adds.
		{"CHOICE { a CHOICE { a NULL } }", []int{5}, 1},
		{"CHOICE { a CHOICE { a NULL, b BOOLEAN }, b INTEGER }", []int{1, 2, 5}, 2},
		{"CHOICE { a NULL, ..., b CHOICE { a BOOLEAN, ..., b BIT STRING } }", []int{1, 3, 5}, 2},
		{"CHOICE { a CHOICE { a NULL, b CHOICE { a IA5String, b CHOICE { a INTEGER, ..., b CHOICE { a BOOLEAN } } } } }", []int{1, 2, 5, 22}, 1},
		// What stands in a SEQUENCE is not a tag of the Choice.
		{"CHOICE { a SEQUENCE { a NULL, ..., b BOOLEAN }, b SEQUENCE OF INTEGER }", []int{16}, 2},
		{"CHOICE { a SEQUENCE { a CHOICE { a NULL, b BOOLEAN } }, b SEQUENCE OF CHOICE { a NULL }, c CHOICE { a SEQUENCE OF CHOICE { a OCTET STRING } } }", []int{16}, 3},
	} {
		choice := typ(t, x.text)
		holdOf(t, nil, false, choice, x.want)
		holdOf(t, nil, true, choice, automatic(x.parts))
		for _, auto := range []bool{false, true} {
			l := []api.Entry{{Module: "M", Name: "A", Auto: false, T: choice}, {Module: "M", Name: "B", Auto: true, T: choice}}
			holdOf(t, l, auto, ref("M.A"), x.want)
			holdOf(t, l, auto, ref("M.B"), automatic(x.parts))
		}
	}
	for _, auto := range []bool{false, true} {
		holdOf(t, nil, auto, api.Type{Kind: api.Choice}, nil)
		holdOf(t, nil, auto, api.Type{Kind: api.Choice, Ext: true, Names: []string{"a"}, Elem: []api.Type{{Kind: api.Null}}}, nil)
	}
	// Of a part, Opt and Def do not matter.
	parts := []api.Part{{T: typ(t, "NULL"), Opt: true}, {T: typ(t, "BOOLEAN"), Def: []api.Value{{}}}}
	for _, x := range []api.Type{{Kind: api.Choice, Parts: parts}, {Kind: api.Choice, Adds: parts}, {Kind: api.Choice, Parts: parts[:1], Adds: parts[1:]}} {
		holdOf(t, nil, false, x, []int{1, 5})
		holdOf(t, nil, true, x, automatic(2))
	}
	for _, count := range []int{1, 255, 256, 257, 1000} {
		many := slices.Repeat(parts, count)
		holdOf(t, nil, false, api.Type{Kind: api.Choice, Parts: many, Adds: many}, []int{1, 5})
		holdOf(t, nil, true, api.Type{Kind: api.Choice, Parts: many, Adds: many}, automatic(4*count))
	}
}

// P13.1: Refs, which lead to an entry with an Auto of its own, or nowhere, or back
// to where they come from.
func TestOfRefs(t *testing.T) {
	for _, x := range []struct {
		entries, text string
		want          []int
	}{
		// To an entry that is not there.
		{"", "M-A", nil},
		{"M-A ::= NULL", "M-B", nil},
		{"M-A ::= NULL", "N-A", nil},
		{"M-A ::= NULL", "A", nil},
		{"M-A ::= NULL", "M", nil},
		{"M-A ::= NULL", "M-A-A", nil},
		{"M-A ::= M-B", "M-A", nil},
		// To one that is.
		{"M-A ::= NULL", "M-A", []int{5}},
		{"N-A ::= BOOLEAN\nM-B ::= INTEGER\nM-A ::= NULL", "M-A", []int{5}},
		{"N-A ::= BOOLEAN\nM-B ::= INTEGER\nM-A ::= NULL", "N-A", []int{1}},
		// To the first one of several.
		{"M-A ::= NULL\nM-A ::= BOOLEAN", "M-A", []int{5}},
		{"N-A ::= INTEGER\nM-A ::= BOOLEAN\nM-A ::= NULL\nM-A ::= INTEGER", "M-A", []int{1}},
		{"M-B ::= M-A\nM-A ::= M-C\nM-A ::= BOOLEAN\nM-C ::= NULL\nM-C ::= M-A", "M-B", []int{5}},
		{"M-A ::= M-B\nM-A ::= BOOLEAN", "M-A", nil},
		{"auto M-A ::= CHOICE { a NULL }\nM-A ::= CHOICE { a NULL }", "M-A", []int{1000}},
		{"M-A ::= CHOICE { a NULL }\nauto M-A ::= CHOICE { a NULL }", "M-A", []int{5}},
		// To a Ref.
		{"M-A ::= M-B\nM-B ::= NULL", "M-A", []int{5}},
		{"M-C ::= NULL\nauto N-B ::= M-C\nM-A ::= N-B", "M-A", []int{5}},
		{"M-A ::= N-B\nauto N-B ::= O-C\nO-C ::= CHOICE { a NULL, b BOOLEAN }", "M-A", []int{1, 5}},
		{"M-A ::= N-B\nN-B ::= O-C\nauto O-C ::= CHOICE { a NULL, b BOOLEAN }", "M-A", automatic(2)},
		// Another Auto.
		{"auto M-A ::= CHOICE { a NULL, ..., b NULL, c NULL }", "M-A", automatic(3)},
		{"auto M-A ::= CHOICE { a NULL }", "CHOICE { a M-A, b BOOLEAN, ..., c NULL }", []int{1, 5, 1000}},
		{"auto M-A ::= CHOICE { a NULL, b M-A, c M-B }\nM-B ::= BOOLEAN", "CHOICE { a M-A, b NULL }", []int{5, 1000, 1001, 1002}},
		{"auto M-A ::= CHOICE { a CHOICE { a NULL, b NULL, c NULL } }", "CHOICE { a M-A }", []int{1000}},
		{"auto M-A ::= CHOICE { a NULL, b NULL }\nauto M-B ::= CHOICE { a NULL, ..., b NULL, c NULL }\nauto M-C ::= CHOICE { a NULL }", "CHOICE { a M-A, b M-B, c M-C }", automatic(3)},
		{"auto M-A ::= CHOICE { a NULL, b NULL }\nM-B ::= CHOICE { a M-A, b NULL }", "CHOICE { a CHOICE { a M-B }, b IA5String }", []int{5, 22, 1000, 1001}},
		{"auto M-A ::= SEQUENCE { a NULL, b NULL }\nauto M-B ::= BIT STRING", "CHOICE { a M-A, b M-B }", []int{3, 16}},
		// Names that the tags of none of them lead to do not matter.
		{"auto M-A ::= CHOICE { a NULL, b NULL }\nM-B ::= SEQUENCE { a M-A }\nM-C ::= SEQUENCE OF M-A", "CHOICE { a M-B, b M-C }", []int{16}},
		{"M-A ::= IA5String\nauto M-B ::= CHOICE { a M-A, b M-C }\nauto M-C ::= CHOICE { a NULL, b NULL, c NULL }", "CHOICE { a M-B }", automatic(2)},
		// Round in a circle.
		{"M-A ::= M-A", "M-A", nil},
		{"M-A ::= M-B\nM-B ::= M-A", "M-A", nil},
		{"M-A ::= M-B\nM-B ::= M-C\nM-C ::= M-B", "M-A", nil},
		{"auto M-A ::= N-B\nN-B ::= M-A", "CHOICE { a M-A, b N-B, c NULL }", []int{5}},
		{"M-A ::= CHOICE { a M-A }", "M-A", nil},
		{"M-A ::= CHOICE { a M-A, b NULL }", "M-A", []int{5}},
		{"M-A ::= CHOICE { a NULL, b M-A, c BOOLEAN, ..., d M-A }", "M-A", []int{1, 5}},
		{"M-A ::= CHOICE { a NULL, ..., b CHOICE { a M-A, b BOOLEAN } }", "M-A", []int{1, 5}},
		{"M-A ::= CHOICE { a M-B, b NULL }\nM-B ::= CHOICE { a M-A, b BOOLEAN }", "M-A", []int{1, 5}},
		{"M-A ::= CHOICE { a M-B, b NULL }\nM-B ::= CHOICE { a M-A, b BOOLEAN }", "M-B", []int{1, 5}},
		{"M-A ::= CHOICE { a M-B }\nM-B ::= CHOICE { a M-C }\nM-C ::= M-D\nM-D ::= CHOICE { a INTEGER, b M-A }", "M-B", []int{2}},
		{"M-A ::= CHOICE { a M-B, b M-C }\nM-B ::= CHOICE { a M-C, b NULL }\nM-C ::= CHOICE { a M-B, b M-A, c IA5String }", "M-C", []int{5, 22}},
		{"M-A ::= CHOICE { a M-B, b NULL }\nM-B ::= CHOICE { a M-B, b BOOLEAN }", "M-B", []int{1}},
		{"M-A ::= CHOICE { a N-B, b NULL }\nauto N-B ::= CHOICE { a M-A, b BOOLEAN }", "M-A", []int{5, 1000, 1001}},
		{"M-A ::= CHOICE { a N-B, b NULL }\nauto N-B ::= M-A", "N-B", []int{5}},
		{"auto M-A ::= CHOICE { a M-A }", "M-A", []int{1000}},
		{"M-A ::= CHOICE { a SEQUENCE { a M-A } }", "M-A", []int{16}},
	} {
		l := entries(t, x.entries)
		holdOf(t, l, false, typ(t, x.text), x.want)
		if typ(t, x.text).Kind == api.Ref {
			holdOf(t, l, true, typ(t, x.text), x.want)
		}
	}
	// Names with other dots, and without letters.
	for _, x := range []struct {
		module, own, name string
		want              []int
	}{
		{"M", "A", "M.A", []int{5}}, {"", "", ".", []int{5}}, {"", "", "", nil}, {"M", "", "M.", []int{5}}, {"", "A", ".A", []int{5}}, {"M.N", "A", "M.N.A", []int{5}}, {"M", "N.A", "M.N.A", []int{5}},
		{"M.", "A", "M..A", []int{5}}, {"M", "A", "M.A ", nil}, {"M", "A", "m.a", nil}, {"M", "A", "M-A", nil}, {"M", "A", "MA", nil}, {"M", "A", "M.A.", nil}, {"M", "A", ".M.A", nil}, {"\xff", "\x00", "\xff.\x00", []int{5}},
	} {
		l := []api.Entry{{Module: x.module, Name: x.own, T: typ(t, "NULL")}, {Module: "Other", T: typ(t, "BOOLEAN")}}
		holdOf(t, l, false, ref(x.name), x.want)
	}
	l := []api.Entry{{Module: "M", Name: "N.A", T: typ(t, "NULL")}, {Module: "M.N", Name: "A", T: typ(t, "BOOLEAN")}}
	holdOf(t, l, false, ref("M.N.A"), []int{5})
	slices.Reverse(l)
	holdOf(t, l, false, ref("M.N.A"), []int{1})
}
