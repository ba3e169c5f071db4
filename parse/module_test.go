package parse_test

import (
	"strconv"
	"strings"
	"testing"

	"spandrel/api"
	"spandrel/parse"
)

// checkModule holds the three results of Module against a module.
func checkModule(t *testing.T, s string, want api.Module) {
	t.Helper()
	modelModule(t, s)
	if got, at, e := parse.Module([]byte(s)); e != api.OK || at != len(s) || !equal(got, want) {
		t.Errorf("%.300q:\n%+v %d %d, not\n%+v", s, got, at, e, want)
	}
}

// P9.1: modules with and without AUTOMATIC TAGS, with none, one and several
// imports and definitions.
func TestModules(t *testing.T) {
	imports := []struct {
		s string
		l []api.Import
	}{
		{"", nil},
		{"IMPORTS A FROM N ;", []api.Import{{Names: []string{"A"}, From: "N"}}},
		{"IMPORTS A , B-1 , A FROM N ;", []api.Import{{Names: []string{"A", "B-1", "A"}, From: "N"}}},
		{"IMPORTS A FROM N B FROM O ;", []api.Import{{Names: []string{"A"}, From: "N"}, {Names: []string{"B"}, From: "O"}}},
		{"IMPORTS A , B FROM N C FROM M D , E FROM N ;", []api.Import{{Names: []string{"A", "B"}, From: "N"}, {Names: []string{"C"}, From: "M"}, {Names: []string{"D", "E"}, From: "N"}}},
	}
	defs := []struct {
		s string
		l []api.Def
	}{
		{"", nil},
		{"A ::= NULL", []api.Def{{Name: "A", T: null}}},
		{"A ::= B B-2 ::= SEQUENCE { } A ::= INTEGER", []api.Def{{Name: "A", T: ref("B")}, {Name: "B-2", T: seq()}, {Name: "A", T: num}}},
		{"A ::= SEQUENCE OF B C ::= INTEGER ( 1 ) D ::= BIT STRING E ::= IA5String F ::= F", []api.Def{{Name: "A", T: list(ref("B"))}, {Name: "C", T: bound(num, one(1))}, {Name: "D", T: api.Type{Kind: api.Bits}}, {Name: "E", T: text}, {Name: "F", T: ref("F")}}},
	}
	for _, i := range imports {
		for _, d := range defs {
			for _, space := range []string{" ", "\n", "\r\n\t", " -- END -- ", "\n--\";\n"} {
				plain, auto := "M DEFINITIONS ::= BEGIN "+i.s+" "+d.s+" END", "M-0 DEFINITIONS AUTOMATIC TAGS ::= BEGIN "+i.s+" "+d.s+" END"
				checkModule(t, strings.Join(strings.Fields(plain), space), api.Module{Name: "M", Imports: i.l, Defs: d.l})
				checkModule(t, space+strings.Join(strings.Fields(auto), space)+space, api.Module{Name: "M-0", Auto: true, Imports: i.l, Defs: d.l})
			}
		}
	}
	checkModule(t, "M DEFINITIONS::=BEGIN IMPORTS A,B FROM N;A::=CHOICE{a NULL}B::=NULL END", api.Module{Name: "M", Imports: []api.Import{{Names: []string{"A", "B"}, From: "N"}}, Defs: []api.Def{{Name: "A", T: choice(of("a", null))}, {Name: "B", T: null}}})
	// Whether names are distinct, and denote anything, is not told here.
	checkModule(t, "M DEFINITIONS ::= BEGIN IMPORTS M, M FROM M M FROM M; M ::= M M ::= X END", api.Module{Name: "M", Imports: []api.Import{{Names: []string{"M", "M"}, From: "M"}, {Names: []string{"M"}, From: "M"}}, Defs: []api.Def{{Name: "M", T: ref("M")}, {Name: "M", T: ref("X")}}})
}

// words is n words, of which each begins as start does, with something between
// them.
func words(n int, start, between string) string {
	var l []string
	for k := range n {
		l = append(l, start+strconv.Itoa(k))
	}
	return strings.Join(l, between)
}

// P9.1: lists of 256 elements are well-formed, those of 257 are not, which only
// the length of the text tells.
func TestMany(t *testing.T) {
	const m = "M DEFINITIONS ::= BEGIN "
	for _, n := range []int{255, 256, 257, 258, 1000} {
		for _, s := range []string{
			"ENUMERATED { " + words(n, "a", ", ") + " }", "ENUMERATED { " + words(n, "a", ", ") + ", ... }", "ENUMERATED { a, ..., " + words(n, "a", ", ") + " }",
			"SEQUENCE { " + words(n, "a", " NULL, ") + " NULL }", "SEQUENCE { ..., " + words(n, "a", " NULL, ") + " NULL }", "SEQUENCE { a T, ..., " + words(n, "a", " T OPTIONAL, ") + " T }",
			"CHOICE { " + words(n, "a", " T, ") + " T, ... }", "CHOICE { a T, ..., " + words(n, "a", " T, ") + " T }",
			"SEQUENCE OF ENUMERATED { " + words(n, "a", ", ") + " }", "CHOICE { a NULL, b SEQUENCE { " + words(n, "a", " T, ") + " T }, c NULL }",
		} {
			if n > 256 {
				checkWrong(t, s+"@")
				checkWrong(t, s+" -- x@")
				checkWrongModule(t, m+"A ::= "+s+" B ::= NULL END@")
				checkWrong(t, s+"@)")
			} else if modelType(t, s) != api.OK || modelModule(t, m+"A ::= "+s+" B ::= NULL END ") != api.OK {
				t.Errorf("%.300q", s)
			}
		}
		for _, s := range []string{
			"IMPORTS " + words(n, "T", ", ") + " FROM N;", "IMPORTS A FROM N " + words(n, "T", ", ") + " FROM N B FROM N;",
			"IMPORTS " + strings.Repeat(" A, B FROM N", n) + ";", strings.Repeat("A ::= NULL ", n), words(n, "T", " ::= BOOLEAN ") + " ::= NULL",
		} {
			if n > 256 {
				checkWrongModule(t, m+s+" END@")
				checkWrongModule(t, m+s+" END\n@")
			} else if modelModule(t, m+s+" END") != api.OK {
				t.Errorf("%.300q", s)
			}
		}
	}
}
