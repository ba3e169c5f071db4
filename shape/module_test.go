package shape_test

import (
	"fmt"
	"slices"
	"strconv"
	"strings"
	"testing"

	"spandrel/api"
	"spandrel/shape"
	"spandrel/token"
)

// checkModule holds what is said of a module against its text, which is empty
// if it is not well-formed.
func checkModule(t *testing.T, m api.Module, text string) {
	t.Helper()
	modelModule(t, m)
	if well := text != ""; shape.Module(m) != well || shape.ModuleText(m) != text {
		t.Errorf("%.300s: %v %.300q, not %v %.300q", fmt.Sprintf("%+v", m), shape.Module(m), shape.ModuleText(m), well, text)
	}
	if _, _, e := token.Scan([]byte(text)); e != api.OK && len(text) <= api.MaxText {
		t.Errorf("%.300q: %v", text, e)
	}
}

// P8.4: modules with and without Auto, imports and definitions.
func TestModules(t *testing.T) {
	imports := []api.Import{{Names: []string{"A", "B-1"}, From: "N"}, {Names: []string{"C"}, From: "O-2"}}
	defs := []api.Def{{Name: "T", T: flag}, {Name: "U", T: seq(of("a", ref("A")))}}
	const line, tables = "IMPORTS A, B-1 FROM N C FROM O-2;\n", "T ::= BOOLEAN\nU ::= SEQUENCE { a A }\n"
	for _, x := range []struct {
		m    api.Module
		text string
	}{
		{api.Module{Name: "M"}, "M DEFINITIONS ::= BEGIN\nEND\n"},
		{api.Module{Name: "M", Auto: true}, "M DEFINITIONS AUTOMATIC TAGS ::= BEGIN\nEND\n"},
		{api.Module{Name: "M", Imports: imports}, "M DEFINITIONS ::= BEGIN\n" + line + "END\n"},
		{api.Module{Name: "M", Imports: imports[:1]}, "M DEFINITIONS ::= BEGIN\nIMPORTS A, B-1 FROM N;\nEND\n"},
		{api.Module{Name: "M", Imports: imports[1:]}, "M DEFINITIONS ::= BEGIN\nIMPORTS C FROM O-2;\nEND\n"},
		{api.Module{Name: "M", Auto: true, Imports: imports}, "M DEFINITIONS AUTOMATIC TAGS ::= BEGIN\n" + line + "END\n"},
		{api.Module{Name: "M", Defs: defs}, "M DEFINITIONS ::= BEGIN\n" + tables + "END\n"},
		{api.Module{Name: "M", Auto: true, Defs: defs[:1]}, "M DEFINITIONS AUTOMATIC TAGS ::= BEGIN\nT ::= BOOLEAN\nEND\n"},
		{api.Module{Name: "M", Imports: imports, Defs: defs}, "M DEFINITIONS ::= BEGIN\n" + line + tables + "END\n"},
		{api.Module{Name: "M-0", Auto: true, Imports: imports, Defs: defs}, "M-0 DEFINITIONS AUTOMATIC TAGS ::= BEGIN\n" + line + tables + "END\n"},
		{api.Module{Name: "M", Imports: []api.Import{}, Defs: []api.Def{}}, "M DEFINITIONS ::= BEGIN\nEND\n"},
		// Whether names are distinct, and denote anything, is not told here.
		{
			api.Module{Name: "M", Imports: []api.Import{{Names: []string{"M", "M"}, From: "M"}, {Names: []string{"M"}, From: "M"}}, Defs: []api.Def{{Name: "M", T: ref("M")}, {Name: "M", T: ref("X")}}},
			"M DEFINITIONS ::= BEGIN\nIMPORTS M, M FROM M M FROM M;\nM ::= M\nM ::= X\nEND\n",
		},
	} {
		checkModule(t, x.m, x.text)
	}
	for _, x := range samples() {
		checkModule(t, api.Module{Name: "M", Auto: true, Defs: []api.Def{{Name: "A", T: x}, defs[0]}}, "M DEFINITIONS AUTOMATIC TAGS ::= BEGIN\nA ::= "+shape.TypeText(x)+"\nT ::= BOOLEAN\nEND\n")
	}
}

// inModules is modules in which a name stands, in each place that names a type
// or a module, and their texts.
func inModules(s string) ([]api.Module, []string) {
	const start = "M DEFINITIONS ::= BEGIN\n"
	a := api.Import{Names: []string{"A"}, From: "N"}
	return []api.Module{
		{Name: s},
		{Name: "M", Imports: []api.Import{{Names: []string{"A"}, From: s}}},
		{Name: "M", Imports: []api.Import{a, {Names: []string{"A"}, From: s}, a}},
		{Name: "M", Imports: []api.Import{{Names: []string{s}, From: "N"}}},
		{Name: "M", Imports: []api.Import{a, {Names: []string{"A", s}, From: "N"}}},
		{Name: "M", Imports: []api.Import{{Names: []string{s, "A", "B"}, From: "N"}, a}},
		{Name: "M", Defs: []api.Def{{Name: s, T: null}}},
		{Name: "M", Defs: []api.Def{{Name: "A", T: null}, {Name: s, T: null}}},
		{Name: "M", Defs: []api.Def{{Name: "A", T: ref(s)}, {Name: "B", T: null}}},
	}, []string{
		s + " DEFINITIONS ::= BEGIN\nEND\n",
		start + "IMPORTS A FROM " + s + ";\nEND\n",
		start + "IMPORTS A FROM N A FROM " + s + " A FROM N;\nEND\n",
		start + "IMPORTS " + s + " FROM N;\nEND\n",
		start + "IMPORTS A FROM N A, " + s + " FROM N;\nEND\n",
		start + "IMPORTS " + s + ", A, B FROM N A FROM N;\nEND\n",
		start + s + " ::= NULL\nEND\n",
		start + "A ::= NULL\n" + s + " ::= NULL\nEND\n",
		start + "A ::= " + s + "\nB ::= NULL\nEND\n",
	}
}

// P8.1, P8.4: names that are words, and those that are none, begin with a
// lowercase letter, or are keywords.
func TestModuleNames(t *testing.T) {
	for _, s := range rightUpper() {
		modules, texts := inModules(s)
		for k, m := range modules {
			checkModule(t, m, texts[k])
		}
	}
	for _, s := range append(wrongUpper(), strings.Fields(keywords)...) {
		modules, _ := inModules(s)
		for _, m := range modules {
			checkModule(t, m, "")
		}
	}
}

// manyUpper is n names of types.
func manyUpper(n int) []string {
	var names []string
	for k := range n {
		names = append(names, "T"+strconv.Itoa(k))
	}
	return names
}

// P8.1, P8.4: lists of 256 elements and of more.
func TestManyInModules(t *testing.T) {
	const start = "M DEFINITIONS ::= BEGIN\n"
	for _, n := range []int{1, 2, 255, 256, 257, 258, 512, 3000} {
		some := api.Import{Names: []string{"A"}, From: "N"}
		imports := slices.Repeat([]api.Import{some}, n)
		var defs []api.Def
		definitions := ""
		for _, name := range manyUpper(n) {
			defs = append(defs, api.Def{Name: name, T: flag})
			definitions += name + " ::= BOOLEAN\n"
		}
		texts := []string{
			start + "IMPORTS" + strings.Repeat(" A FROM N", n) + ";\nEND\n",
			start + "IMPORTS " + strings.Join(manyUpper(n), ", ") + " FROM N;\nEND\n",
			start + "IMPORTS A FROM N " + strings.Join(manyUpper(n), ", ") + " FROM N A FROM N;\nEND\n",
			start + definitions + "END\n",
		}
		for k, m := range []api.Module{
			{Name: "M", Imports: imports},
			{Name: "M", Imports: []api.Import{{Names: manyUpper(n), From: "N"}}},
			{Name: "M", Imports: []api.Import{some, {Names: manyUpper(n), From: "N"}, some}},
			{Name: "M", Defs: defs},
		} {
			if n > 256 {
				texts[k] = ""
			}
			checkModule(t, m, texts[k])
		}
	}
}

// P8.1, P8.4: imports without names, and types that are not well-formed.
func TestWrongModules(t *testing.T) {
	some := api.Import{Names: []string{"A"}, From: "N"}
	for _, l := range [][]api.Import{
		{{}}, {{From: "N"}}, {{Names: []string{}, From: "N"}}, {{Names: []string{"A"}}}, {some, {From: "N"}}, {{From: "N"}, some}, {some, {Names: []string{"A"}}, some}, {some, some, {Names: []string{"A", ""}, From: "N"}},
	} {
		checkModule(t, api.Module{Name: "M", Imports: l}, "")
		checkModule(t, api.Module{Name: "M", Auto: true, Imports: l, Defs: []api.Def{{Name: "A", T: flag}}}, "")
	}
	for _, x := range []api.Type{{}, {Kind: 12}, {Kind: api.Int, Con: except(one(1))}, {Kind: api.Int, Ext: true}, {Kind: api.Enum}, {Kind: api.Bool, Name: "A"}, seq(of("A", null)), choice()} {
		checkModule(t, api.Module{Name: "M", Defs: []api.Def{{Name: "A", T: x}}}, "")
		checkModule(t, api.Module{Name: "M", Defs: []api.Def{{Name: "A", T: null}, {Name: "B", T: x}}}, "")
		checkModule(t, api.Module{Name: "M", Auto: true, Imports: []api.Import{some}, Defs: []api.Def{{Name: "A", T: x}, {Name: "B", T: null}}}, "")
	}
	checkModule(t, api.Module{}, "")
	checkModule(t, api.Module{Defs: []api.Def{{Name: "A", T: flag}}}, "")
	checkModule(t, api.Module{Name: "M", Defs: []api.Def{{}}}, "")
	checkModule(t, api.Module{Name: "M", Defs: []api.Def{{T: flag}}}, "")
	checkModule(t, api.Module{Name: "M", Defs: []api.Def{{Name: "A"}}}, "")
}

// P8.1, P8.4: all that differs in one thing, at any depth, from a module, held
// against the model.
func TestVariedModules(t *testing.T) {
	m := api.Module{Name: "M", Auto: true, Imports: []api.Import{{Names: []string{"A", "B"}, From: "N"}, {Names: []string{"C"}, From: "O"}}}
	for k, x := range samples() {
		m.Defs = append(m.Defs, api.Def{Name: "T" + strconv.Itoa(k), T: x})
	}
	modelModule(t, m)
	vary(m, func(x api.Module) { modelModule(t, x) })
}
