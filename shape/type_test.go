package shape_test

import (
	"fmt"
	"math"
	"reflect"
	"slices"
	"strconv"
	"strings"
	"testing"

	"spandrel/api"
	"spandrel/shape"
	"spandrel/token"
)

// null and flag are types without more, ref is one that has a name.
var (
	null = api.Type{Kind: api.Null}
	flag = api.Type{Kind: api.Bool}
)

func ref(name string) api.Type { return api.Type{Kind: api.Ref, Name: name} }

// seq is a sequence, choice a choice, of these.
func seq(parts ...api.Part) api.Type    { return api.Type{Kind: api.Seq, Parts: parts} }
func choice(parts ...api.Part) api.Type { return api.Type{Kind: api.Choice, Parts: parts} }

// of is a part without more, with is one that has a default value.
func of(name string, t api.Type) api.Part { return api.Part{Name: name, T: t} }
func with(name string, t api.Type, v api.Value) api.Part {
	return api.Part{Name: name, T: t, Def: []api.Value{v}}
}

// base is a well-formed type of a kind with no more than it needs, and for what
// is no kind a type with nothing else.
func base(kind int) api.Type {
	x := api.Type{Kind: kind}
	switch kind {
	case api.Enum:
		x.Names = []string{"a"}
	case api.Choice:
		x.Parts = []api.Part{of("a", null)}
	case api.SeqOf:
		x.Elem = []api.Type{null}
	case api.Ref:
		x.Name = "T"
	}
	return x
}

// checkType holds what all functions say of a type against its text, which is
// empty if it is not well-formed.
func checkType(t *testing.T, x api.Type, text string) {
	t.Helper()
	modelType(t, x)
	well := text != ""
	if shape.Type(x) != well || shape.TypeText(x) != text {
		t.Errorf("%.300s: %v %.300q, not %v %.300q", fmt.Sprintf("%+v", x), shape.Type(x), shape.TypeText(x), well, text)
	}
	m := api.Module{Name: "M", Defs: []api.Def{{Name: "A", T: flag}, {Name: "B", T: x}}}
	of := ""
	if well {
		of = "M DEFINITIONS ::= BEGIN\nA ::= BOOLEAN\nB ::= " + text + "\nEND\n"
	}
	if shape.Module(m) != well || shape.ModuleText(m) != of {
		t.Errorf("%.300s in a module: %v %.300q", fmt.Sprintf("%+v", x), shape.Module(m), shape.ModuleText(m))
	}
	if _, _, e := token.Scan([]byte(of)); e != api.OK && len(of) <= api.MaxText {
		t.Errorf("%.300q: %v", of, e)
	}
}

// checkWithin is checkType for a type, and for others in which it stands.
func checkWithin(t *testing.T, x api.Type, text string) {
	t.Helper()
	checkType(t, x, text)
	texts := [...]string{"SEQUENCE { a " + text + " }", "SEQUENCE { a NULL, ..., b " + text + " OPTIONAL }", "CHOICE { a " + text + ", b NULL }", "CHOICE { a NULL, ..., b " + text + " }", "SEQUENCE OF " + text}
	added := api.Part{Name: "b", T: x, Opt: true}
	for k, y := range [...]api.Type{
		seq(of("a", x)),
		{Kind: api.Seq, Parts: []api.Part{of("a", null)}, Ext: true, Adds: []api.Part{added}},
		choice(of("a", x), of("b", null)),
		{Kind: api.Choice, Parts: []api.Part{of("a", null)}, Ext: true, Adds: []api.Part{of("b", x)}},
		{Kind: api.SeqOf, Elem: []api.Type{x}},
	} {
		if text == "" {
			checkType(t, y, "")
		} else {
			checkType(t, y, texts[k])
		}
	}
}

// P8.1 to P8.3: the chapter's examples, and those of the document.
func TestExamples(t *testing.T) {
	integer := api.Type{Kind: api.Int}
	for _, x := range []struct {
		t    api.Type
		text string
	}{
		{api.Type{Kind: api.Int, Con: union(span(0, 7), one(9)), Ext: true}, "INTEGER (0..7 | 9, ...)"},
		{api.Type{Kind: api.Bits, Con: one(8)}, "BIT STRING (SIZE (8))"},
		{
			api.Type{Kind: api.Seq, Parts: []api.Part{{Name: "a", T: flag, Opt: true}}, Ext: true, Adds: []api.Part{with("b", integer, api.Value{Kind: api.Int, N: -5})}},
			"SEQUENCE { a BOOLEAN OPTIONAL, ..., b INTEGER DEFAULT -5 }",
		},
		{api.Type{Kind: api.SeqOf, Con: api.Con{Op: api.Span, Lo: 1, High: true}, Elem: []api.Type{ref("T")}}, "SEQUENCE (SIZE (1..MAX)) OF T"},

		{api.Type{Kind: api.Int, Con: span(0, 7), Ext: true}, "INTEGER (0..7, ...)"},
		{seq(api.Part{Name: "a", T: flag, Opt: true}, of("b", null)), "SEQUENCE { a BOOLEAN OPTIONAL, b NULL }"},
		{api.Type{Kind: api.Enum, Names: []string{"a"}, Ext: true, More: []string{"b", "c"}}, "ENUMERATED { a, ..., b, c }"},
		{api.Type{Kind: api.SeqOf, Elem: []api.Type{flag}}, "SEQUENCE OF BOOLEAN"},
		{choice(of("a", null), of("b", flag)), "CHOICE { a NULL, b BOOLEAN }"},
		{api.Type{Kind: api.Seq, Parts: []api.Part{of("z", null)}, Ext: true}, "SEQUENCE { z NULL, ... }"},
		{api.Type{Kind: api.Int, Con: span(5, 4)}, "INTEGER (5..4)"},
	} {
		checkWithin(t, x.t, x.text)
	}
}

// P8.1, P8.3: each Kind with no more than it needs, and what is no Kind.
func TestKinds(t *testing.T) {
	for kind, text := range map[int]string{
		api.Bool: "BOOLEAN", api.Int: "INTEGER", api.Enum: "ENUMERATED { a }", api.Null: "NULL", api.Bits: "BIT STRING", api.Octets: "OCTET STRING",
		api.Str: "IA5String", api.Seq: "SEQUENCE { }", api.SeqOf: "SEQUENCE OF NULL", api.Choice: "CHOICE { a NULL }", api.Ref: "T",
	} {
		checkWithin(t, base(kind), text)
	}
	for _, kind := range []int{0, -1, 12, 13, 256, 257, math.MinInt, math.MaxInt} {
		checkWithin(t, base(kind), "")
		for from := range 12 {
			x := base(from)
			x.Kind = kind
			checkWithin(t, x, "")
		}
	}
	// A list without elements is not set, be it nil or not.
	for kind := 1; kind <= 11; kind++ {
		x, y := base(kind), api.Type{Con: api.Con{L: []api.Con{}}, Names: []string{}, More: []string{}, Parts: []api.Part{}, Adds: []api.Part{}, Elem: []api.Type{}}
		for k := range reflect.ValueOf(x).NumField() {
			if f := reflect.ValueOf(&x).Elem().Field(k); f.IsZero() {
				f.Set(reflect.ValueOf(y).Field(k))
			}
		}
		checkType(t, x, shape.TypeText(base(kind)))
	}
}

// P8.1, P8.3: each field set in a type of each Kind.
func TestFields(t *testing.T) {
	fields := map[string]api.Type{
		"Name": {Name: "T"}, "Con": {Con: one(1)}, "Ext": {Ext: true}, "From": {From: "ab"}, "Names": {Names: []string{"b"}}, "More": {More: []string{"b"}},
		"Parts": {Parts: []api.Part{of("b", null)}}, "Adds": {Adds: []api.Part{of("b", null)}}, "Elem": {Elem: []api.Type{null}},
	}
	well := map[int]map[string]string{
		api.Bool:   {},
		api.Null:   {},
		api.Int:    {"Con": "INTEGER (1)", "Con Ext": "INTEGER (1, ...)"},
		api.Bits:   {"Con": "BIT STRING (SIZE (1))", "Con Ext": "BIT STRING (SIZE (1, ...))"},
		api.Octets: {"Con": "OCTET STRING (SIZE (1))", "Con Ext": "OCTET STRING (SIZE (1, ...))"},
		api.Str: {
			"Con": "IA5String (SIZE (1))", "Con Ext": "IA5String (SIZE (1, ...))", "From": "IA5String (FROM (\"ab\"))",
			"Con From": "IA5String (FROM (\"ab\")) (SIZE (1))", "Con Ext From": "IA5String (FROM (\"ab\")) (SIZE (1, ...))",
		},
		api.Enum:   {"Names": "ENUMERATED { b }", "Ext": "ENUMERATED { a, ... }", "Ext Names": "ENUMERATED { b, ... }", "Ext More": "ENUMERATED { a, ..., b }", "Ext Names More": "ENUMERATED { b, ..., b }"},
		api.Seq:    {"Parts": "SEQUENCE { b NULL }", "Ext": "SEQUENCE { ... }", "Ext Parts": "SEQUENCE { b NULL, ... }", "Ext Adds": "SEQUENCE { ..., b NULL }", "Ext Parts Adds": "SEQUENCE { b NULL, ..., b NULL }"},
		api.Choice: {"Parts": "CHOICE { b NULL }", "Ext": "CHOICE { a NULL, ... }", "Ext Parts": "CHOICE { b NULL, ... }", "Ext Adds": "CHOICE { a NULL, ..., b NULL }", "Ext Parts Adds": "CHOICE { b NULL, ..., b NULL }"},
		api.SeqOf:  {"Con": "SEQUENCE (SIZE (1)) OF NULL", "Con Ext": "SEQUENCE (SIZE (1, ...)) OF NULL", "Elem": "SEQUENCE OF NULL", "Con Elem": "SEQUENCE (SIZE (1)) OF NULL", "Con Ext Elem": "SEQUENCE (SIZE (1, ...)) OF NULL"},
		api.Ref:    {"Name": "T"},
	}
	names := []string{"Name", "Con", "Ext", "From", "Names", "More", "Parts", "Adds", "Elem"}
	for kind := 1; kind <= 11; kind++ {
		for subset := 1; subset < 1<<len(names); subset++ {
			x := base(kind)
			var set []string
			for k, name := range names {
				if subset>>k&1 == 1 {
					set = append(set, name)
					reflect.ValueOf(&x).Elem().FieldByName(name).Set(reflect.ValueOf(fields[name]).FieldByName(name))
				}
			}
			checkType(t, x, well[kind][strings.Join(set, " ")])
		}
		if len(well[kind]) > 5 {
			t.Errorf("kind %d has %d rows", kind, len(well[kind]))
		}
	}
}

// P8.1, P8.3: what a type must have, and has not.
func TestNotEnough(t *testing.T) {
	for _, x := range []api.Type{
		{Kind: api.Enum}, {Kind: api.Enum, Ext: true}, {Kind: api.Enum, Ext: true, More: []string{"a"}}, {Kind: api.Enum, More: []string{"a"}}, {Kind: api.Enum, Names: []string{}},
		{Kind: api.Choice}, {Kind: api.Choice, Ext: true}, {Kind: api.Choice, Ext: true, Adds: []api.Part{of("a", null)}}, {Kind: api.Choice, Adds: []api.Part{of("a", null)}}, {Kind: api.Choice, Parts: []api.Part{}},
		{Kind: api.SeqOf}, {Kind: api.SeqOf, Con: one(1)}, {Kind: api.SeqOf, Elem: []api.Type{}}, {Kind: api.SeqOf, Elem: []api.Type{null, null}}, {Kind: api.SeqOf, Elem: []api.Type{null, flag, null}},
		{Kind: api.SeqOf, Elem: []api.Type{{}}}, {Kind: api.SeqOf, Elem: []api.Type{null, {}}},
		{Kind: api.Ref}, {},
	} {
		checkWithin(t, x, "")
	}
}

// P8.1, P8.3: alphabets.
func TestFrom(t *testing.T) {
	all := ""
	for c := byte(32); c <= 126; c++ {
		all += string([]byte{c})
	}
	for from, text := range map[string]string{
		"": "IA5String", "a": `IA5String (FROM ("a"))`, " ": `IA5String (FROM (" "))`, `"`: `IA5String (FROM (""""))`, "~": `IA5String (FROM ("~"))`,
		` "`: `IA5String (FROM (" """))`, `"~`: `IA5String (FROM ("""~"))`, ` "~`: `IA5String (FROM (" ""~"))`, " !\"#0AZaz~": `IA5String (FROM (" !""#0AZaz~"))`,
		"abc": `IA5String (FROM ("abc"))`, "AZaz": `IA5String (FROM ("AZaz"))`, `\`: `IA5String (FROM ("\"))`, "--": "", "()": `IA5String (FROM ("()"))`,
		all: `IA5String (FROM ("` + strings.ReplaceAll(all, `"`, `""`) + `"))`,

		"aa": "", "ba": "", "aba": "", "abb": "", "abcb": "", "aA": "", "a0": "", `""`: "", "  ": "", "~~": "", all + "~": "", " " + all: "",
		"\x1f": "", "\x7f": "", "\n": "", "\x00": "", "\x00a": "", "a\x7f": "", "\x1f ": "", "~\x7f": "", "a\xff": "", "\x80": "", "é": "", "aé": "", " \x1fa": "",
	} {
		x := api.Type{Kind: api.Str, From: from}
		checkWithin(t, x, text)
		x.Ext = true // There is no constraint that may be extended.
		checkWithin(t, x, "")
		x.Con = meet(toMax, one(-1))
		if text != "" {
			text += " (SIZE (5..MAX ^ -1, ...))"
		}
		checkWithin(t, x, text)
	}
	for c := range 256 {
		x, text := api.Type{Kind: api.Str, From: string([]byte{byte(c)})}, ""
		if c >= 32 && c <= 126 {
			text = `IA5String (FROM ("` + strings.ReplaceAll(x.From, `"`, `""`) + `"))`
		}
		checkType(t, x, text)
	}
}

// many is n names; p0, p1 and so on.
func many(n int) []string {
	var names []string
	for k := range n {
		names = append(names, "p"+strconv.Itoa(k))
	}
	return names
}

// P8.1, P8.3: enumerations of one name, of 256 and of 257, with Ext and with
// More.
func TestEnumerations(t *testing.T) {
	for _, n := range []int{1, 2, 3, 255, 256} {
		names := strings.Join(many(n), ", ")
		checkType(t, api.Type{Kind: api.Enum, Names: many(n)}, "ENUMERATED { "+names+" }")
		checkType(t, api.Type{Kind: api.Enum, Names: many(n), Ext: true}, "ENUMERATED { "+names+", ... }")
		for _, more := range []int{1, 2, 256} {
			checkType(t, api.Type{Kind: api.Enum, Names: many(n), Ext: true, More: many(more)}, "ENUMERATED { "+names+", ..., "+strings.Join(many(more), ", ")+" }")
		}
		for _, more := range []int{257, 300} {
			checkType(t, api.Type{Kind: api.Enum, Names: many(n), Ext: true, More: many(more)}, "")
			checkType(t, api.Type{Kind: api.Enum, Names: many(more), Ext: true, More: many(n)}, "")
		}
		checkType(t, api.Type{Kind: api.Enum, Names: many(n), More: many(n)}, "")
	}
	for _, n := range []int{0, 257, 258, 512, 70000} {
		checkType(t, api.Type{Kind: api.Enum, Names: many(n)}, "")
		checkType(t, api.Type{Kind: api.Enum, Names: many(n), Ext: true}, "")
	}
	// Whether names are distinct is not told here.
	checkWithin(t, api.Type{Kind: api.Enum, Names: []string{"a", "a"}, Ext: true, More: []string{"a"}}, "ENUMERATED { a, a, ..., a }")
}

// parts is n parts, and their texts.
func parts(n int) ([]api.Part, string) {
	var l []api.Part
	var texts []string
	for _, name := range many(n) {
		l = append(l, of(name, flag))
		texts = append(texts, name+" BOOLEAN")
	}
	return l, strings.Join(texts, ", ")
}

// P8.1, P8.3: sequences and choices with and without parts, Ext and Adds.
func TestParts(t *testing.T) {
	for kind, word := range map[int]string{api.Seq: "SEQUENCE", api.Choice: "CHOICE"} {
		for _, n := range []int{1, 2, 3, 255, 256} {
			l, text := parts(n)
			checkType(t, api.Type{Kind: kind, Parts: l}, word+" { "+text+" }")
			checkType(t, api.Type{Kind: kind, Parts: l, Ext: true}, word+" { "+text+", ... }")
			checkType(t, api.Type{Kind: kind, Parts: l, Adds: l}, "")
			for _, more := range []int{1, 2, 256} {
				adds, added := parts(more)
				checkType(t, api.Type{Kind: kind, Parts: l, Ext: true, Adds: adds}, word+" { "+text+", ..., "+added+" }")
			}
			for _, more := range []int{257, 300} {
				adds, _ := parts(more)
				checkType(t, api.Type{Kind: kind, Parts: l, Ext: true, Adds: adds}, "")
				checkType(t, api.Type{Kind: kind, Parts: adds, Ext: true, Adds: l}, "")
			}
		}
		for _, n := range []int{257, 258, 512, 70000} {
			l, _ := parts(n)
			checkType(t, api.Type{Kind: kind, Parts: l}, "")
			checkType(t, api.Type{Kind: kind, Parts: l, Ext: true}, "")
		}
		// Whether names are distinct is not told here.
		twice := []api.Part{of("a", null), of("a", flag)}
		checkWithin(t, api.Type{Kind: kind, Parts: twice, Ext: true, Adds: twice}, word+" { a NULL, a BOOLEAN, ..., a NULL, a BOOLEAN }")
	}
	l, text := parts(256)
	checkWithin(t, seq(), "SEQUENCE { }")
	checkWithin(t, api.Type{Kind: api.Seq, Ext: true}, "SEQUENCE { ... }")
	checkWithin(t, api.Type{Kind: api.Seq, Ext: true, Adds: l[:1]}, "SEQUENCE { ..., p0 BOOLEAN }")
	checkWithin(t, api.Type{Kind: api.Seq, Ext: true, Adds: l}, "SEQUENCE { ..., "+text+" }")
	checkWithin(t, api.Type{Kind: api.Seq, Adds: l[:1]}, "")
	checkWithin(t, seq(of("a", seq()), of("b", choice(of("c", seq(of("d", base(api.SeqOf))))))), "SEQUENCE { a SEQUENCE { }, b CHOICE { c SEQUENCE { d SEQUENCE OF NULL } } }")
}

// inPart is the types in which a part stands, as one of Parts and as one of
// Adds, of a sequence and of a choice.
func inPart(p api.Part) (sequences, choices []api.Type) {
	a := of("a", null)
	for _, l := range [][2][]api.Part{{{p}, nil}, {{a, p}, nil}, {{p, a}, {a}}, {{a}, {p}}, {{a}, {a, p}}} {
		sequences = append(sequences, api.Type{Kind: api.Seq, Parts: l[0], Ext: len(l[1]) > 0, Adds: l[1]})
		choices = append(choices, api.Type{Kind: api.Choice, Parts: l[0], Ext: len(l[1]) > 0, Adds: l[1]})
	}
	return sequences, choices
}

// checkPart holds what is said of types with a part against the part's text in
// a sequence and in a choice, which is empty where it is not well-formed.
func checkPart(t *testing.T, p api.Part, inSeq, inChoice string) {
	t.Helper()
	texts := [...]string{"{ @ }", "{ a NULL, @ }", "{ @, a NULL, ..., a NULL }", "{ a NULL, ..., @ }", "{ a NULL, ..., a NULL, @ }"}
	sequences, choices := inPart(p)
	for k, text := range texts {
		ofSeq, ofChoice := "", ""
		if inSeq != "" {
			ofSeq = "SEQUENCE " + strings.ReplaceAll(text, "@", inSeq)
		}
		if inChoice != "" {
			ofChoice = "CHOICE " + strings.ReplaceAll(text, "@", inChoice)
		}
		checkType(t, sequences[k], ofSeq)
		checkType(t, choices[k], ofChoice)
	}
}

// P8.1, P8.3: Opt, and default values of each kind.
func TestDefaults(t *testing.T) {
	integer, text := api.Type{Kind: api.Int}, api.Type{Kind: api.Str}
	for _, x := range []struct {
		v    api.Value
		text string
	}{
		{api.Value{Kind: api.Bool}, "FALSE"}, {api.Value{Kind: api.Bool, N: 1}, "TRUE"},
		{api.Value{Kind: api.Int}, "0"}, {api.Value{Kind: api.Int, N: 1}, "1"}, {api.Value{Kind: api.Int, N: -5}, "-5"}, {api.Value{Kind: api.Int, N: 1234567}, "1234567"},
		{api.Value{Kind: api.Int, N: math.MaxInt}, "9223372036854775807"}, {api.Value{Kind: api.Int, N: -math.MaxInt}, "-9223372036854775807"},
		{api.Value{Kind: api.Enum, S: "a"}, "a"}, {api.Value{Kind: api.Enum, S: "a-B-0"}, "a-B-0"}, {api.Value{Kind: api.Enum, S: "true"}, "true"},
		{api.Value{Kind: api.Str}, `""`}, {api.Value{Kind: api.Str, S: "a"}, `"a"`}, {api.Value{Kind: api.Str, S: `"`}, `""""`}, {api.Value{Kind: api.Str, S: `""`}, `""""""`},
		{api.Value{Kind: api.Str, S: `a"b`}, `"a""b"`}, {api.Value{Kind: api.Str, S: `"a`}, `"""a"`}, {api.Value{Kind: api.Str, S: `a"`}, `"a"""`}, {api.Value{Kind: api.Str, S: " ~"}, `" ~"`},
		{api.Value{Kind: api.Str, S: "ba--\\01 TRUE"}, `"ba--\01 TRUE"`}, {api.Value{Kind: api.Str, S: strings.Repeat("x", 1000)}, `"` + strings.Repeat("x", 1000) + `"`},
		{api.Value{Kind: api.Bool, N: 1, Names: []string{}, L: []api.Value{}}, "TRUE"},
	} {
		// Whether a value is of its part's type is not told here.
		checkPart(t, with("b", integer, x.v), "b INTEGER DEFAULT "+x.text, "")
		checkPart(t, with("b", ref("T"), x.v), "b T DEFAULT "+x.text, "")
		both := with("b", text, x.v)
		both.Opt = true
		checkPart(t, both, "", "")
		two := with("b", text, x.v)
		two.Def = append(two.Def, x.v)
		checkPart(t, two, "", "")
	}
	checkPart(t, of("b", text), "b IA5String", "b IA5String")
	checkPart(t, api.Part{Name: "b", T: text, Def: []api.Value{}}, "b IA5String", "b IA5String")
	checkPart(t, api.Part{Name: "b", T: text, Opt: true}, "b IA5String OPTIONAL", "")
	checkPart(t, api.Part{Name: "b", T: api.Type{Kind: api.SeqOf, Elem: []api.Type{flag}}, Opt: true, Def: []api.Value{}}, "b SEQUENCE OF BOOLEAN OPTIONAL", "")
	checkPart(t, with("b", seq(api.Part{Name: "c", T: flag, Opt: true}), api.Value{Kind: api.Bool}), "b SEQUENCE { c BOOLEAN OPTIONAL } DEFAULT FALSE", "")
}

// P8.1, P8.3: default values that are not well-formed.
func TestWrongDefaults(t *testing.T) {
	for _, v := range []api.Value{
		{}, {Kind: api.Null}, {Kind: api.Bits}, {Kind: api.Octets}, {Kind: api.Seq}, {Kind: api.SeqOf}, {Kind: api.Choice}, {Kind: api.Ref}, {Kind: 12}, {Kind: -1}, {Kind: math.MinInt}, {N: 1}, {S: "a"},
		{Kind: api.Bits, S: "01"}, {Kind: api.Octets, S: "a"}, {Kind: api.Seq, Names: []string{"a"}, L: []api.Value{{Kind: api.Null}}}, {Kind: api.SeqOf, L: []api.Value{{Kind: api.Bool}}}, {Kind: api.Choice, S: "a", L: []api.Value{{Kind: api.Null}}}, {Kind: api.Ref, S: "T"},
		{Kind: api.Bool, N: 2}, {Kind: api.Bool, N: -1}, {Kind: api.Bool, N: math.MinInt}, {Kind: api.Bool, N: 256}, {Kind: api.Bool, S: "a"}, {Kind: api.Bool, N: 1, S: "TRUE"},
		{Kind: api.Int, N: math.MinInt}, {Kind: api.Int, N: 5, S: "5"}, {Kind: api.Int, S: "5"},
		{Kind: api.Enum}, {Kind: api.Enum, N: 1}, {Kind: api.Enum, S: "a", N: 1}, {Kind: api.Enum, S: "a", N: -1},
		{Kind: api.Str, N: 1}, {Kind: api.Str, S: "a", N: 1}, {Kind: api.Str, S: "\x1f"}, {Kind: api.Str, S: "\x7f"}, {Kind: api.Str, S: "a\x00"}, {Kind: api.Str, S: "a\nb"}, {Kind: api.Str, S: "é"}, {Kind: api.Str, S: "ab\xff"}, {Kind: api.Str, S: "\x80~"},
	} {
		checkPart(t, with("b", base(api.Int), v), "", "")
	}
	for _, s := range append(wrongLower(), "A", "TRUE", "T") {
		checkPart(t, with("b", base(api.Enum), api.Value{Kind: api.Enum, S: s}), "", "")
	}
	for _, v := range []api.Value{{Kind: api.Bool, N: 1}, {Kind: api.Int, N: 1}, {Kind: api.Enum, S: "a"}, {Kind: api.Str, S: "a"}} {
		names, list := v, v
		names.Names, list.L = []string{"a"}, []api.Value{v}
		checkPart(t, with("b", null, names), "", "")
		checkPart(t, with("b", null, list), "", "")
		list.L = []api.Value{{}}
		checkPart(t, with("b", null, list), "", "")
		for _, other := range []api.Value{v, {}, {Kind: api.Int}} {
			checkPart(t, api.Part{Name: "b", T: null, Def: []api.Value{v, other}}, "", "")
			checkPart(t, api.Part{Name: "b", T: null, Def: []api.Value{other, v, v}}, "", "")
		}
	}
}

// wrongLower is what is no word with a lowercase letter first, wrongUpper what
// is none with an uppercase letter first.
func wrongLower() []string { return append(wrongWords(), "A", "Ab", "T", "OF", "IA5String", "A-b") }
func wrongUpper() []string { return append(wrongWords(), "a", "ab", "aT", "of", "b-A") }

// wrongWords is what is no word at all.
func wrongWords() []string {
	return []string{
		"", "-", "--", "0", "5a", "5A", "-a", "-A", "a-", "A-", "a--", "A--", "a--b", "A--B", "a b", "A B", " a", " A", "a ", "A ", "a\n", "A\n", "\tA", "a,", "A.B", "a.b", "a_b", "A_B", "_", "_a",
		"a\x00", "A\x00", "é", "É", "aé", "Aé", "\"a\"", "\"A\"", "\"", "a\"", "::=", "...", "a-- x", "A-- x\n", "-- x\na", "--x--A", "\xff", "{", "A{}",
	}
}

// rightLower and rightUpper are words.
func rightLower() []string {
	return []string{"a", "z", "ab", "aB", "a0", "a-b", "a-0-B", "of", "true", "integer", "mAX", "iA5String", "end", "a" + strings.Repeat("-b", 500)}
}
func rightUpper() []string {
	return []string{"A", "Z", "AB", "Ab", "A0", "A-b", "A-0-B", "Of", "Integer", "INTEGERS", "INTEGER-1", "IA5STRING", "MINIMUM", "ENDS", "T-END", "TRUe", "A" + strings.Repeat("-b", 500)}
}

// P8.1, P8.3: names of items, of parts and of additions, and those of types.
func TestNames(t *testing.T) {
	for _, s := range rightLower() {
		checkPart(t, of(s, null), s+" NULL", s+" NULL")
		checkType(t, api.Type{Kind: api.Enum, Names: []string{s}}, "ENUMERATED { "+s+" }")
		checkType(t, api.Type{Kind: api.Enum, Names: []string{"a", s, "b"}, Ext: true, More: []string{"c", s}}, "ENUMERATED { a, "+s+", b, ..., c, "+s+" }")
	}
	for _, s := range append(wrongLower(), strings.Fields(keywords)...) {
		checkPart(t, of(s, null), "", "")
		checkType(t, api.Type{Kind: api.Enum, Names: []string{s}}, "")
		checkType(t, api.Type{Kind: api.Enum, Names: []string{"a", s, "b"}}, "")
		checkType(t, api.Type{Kind: api.Enum, Names: []string{"a"}, Ext: true, More: []string{s}}, "")
		checkType(t, api.Type{Kind: api.Enum, Names: []string{"a"}, Ext: true, More: []string{"a", "b", s}}, "")
	}
	for _, s := range rightUpper() {
		checkWithin(t, ref(s), s)
	}
	for _, s := range append(wrongUpper(), strings.Fields(keywords)...) {
		checkWithin(t, ref(s), "")
	}
}

// P8.1: Keyword, for each keyword and what is almost one.
func TestKeyword(t *testing.T) {
	words := strings.Fields(keywords)
	if len(words) != 26 {
		t.Error(len(words))
	}
	for _, s := range words {
		if !shape.Keyword(s) {
			t.Errorf("%q is none", s)
		}
		for _, other := range []string{s + "S", "S" + s, s[1:], s[:len(s)-1], strings.ToLower(s), s + " ", " " + s, s + "\n", s + "-1", s + s, s + "\x00", strings.ToUpper(s[:1]) + strings.ToLower(s[1:])} {
			if shape.Keyword(other) != slices.Contains(words, other) {
				t.Errorf("%q is one", other)
			}
		}
	}
	for _, s := range append(append(append(wrongWords(), rightLower()...), rightUpper()...), "", " ", "SET", "ANY", "ABSENT", "REAL", "EXPORTS", "EXPLICIT", "IMPLICIT", "UNION", "INTERSECTION", "IA5STRING", strings.Repeat("OF", 100000), keywords) {
		if shape.Keyword(s) {
			t.Errorf("%.100q is one", s)
		}
	}
}
