package parse_test

import (
	"strings"
	"testing"

	"spandrel/api"
	"spandrel/parse"
)

// Types that the tests use.
var (
	null = api.Type{Kind: api.Null}
	flag = api.Type{Kind: api.Bool}
	num  = api.Type{Kind: api.Int}
	text = api.Type{Kind: api.Str}
)

// ref is a reference, seq a sequence, choice a choice, list a sequence of others.
func ref(name string) api.Type         { return api.Type{Kind: api.Ref, Name: name} }
func seq(l ...api.Part) api.Type       { return api.Type{Kind: api.Seq, Parts: l} }
func choice(l ...api.Part) api.Type    { return api.Type{Kind: api.Choice, Parts: l} }
func list(x api.Type) api.Type         { return api.Type{Kind: api.SeqOf, Elem: []api.Type{x}} }
func of(n string, x api.Type) api.Part { return api.Part{Name: n, T: x} }

// open is a type with Ext and what has been added to it.
func open(x api.Type, adds ...api.Part) api.Type {
	x.Ext, x.Adds = true, adds
	return x
}

// optional and with are parts with OPTIONAL and with a default.
func optional(n string, x api.Type) api.Part {
	return api.Part{Name: n, T: x, Opt: true}
}
func with(n string, x api.Type, v api.Value) api.Part {
	return api.Part{Name: n, T: x, Def: []api.Value{v}}
}

// bound is a type with a constraint, wide one whose constraint is extensible.
func bound(x api.Type, c api.Con) api.Type {
	x.Con = c
	return x
}
func wide(x api.Type, c api.Con) api.Type {
	x.Con, x.Ext = c, true
	return x
}

// enum is an enumeration, enumMore an extensible one.
func enum(names ...string) api.Type { return api.Type{Kind: api.Enum, Names: names} }
func enumMore(names, more string) api.Type {
	return api.Type{Kind: api.Enum, Names: strings.Fields(names), Ext: true, More: strings.Fields(more)}
}

// from is a string's type with an alphabet.
func from(s string) api.Type { return api.Type{Kind: api.Str, From: s} }

// checkRead holds the three results of Type against a type.
func checkRead(t *testing.T, s string, want api.Type) {
	t.Helper()
	if got, at, e := parse.Type([]byte(s)); e != api.OK || at != len(s) || !equal(got, want) {
		t.Errorf("%.300q:\n%+v %d %d, not\n%+v", s, got, at, e, want)
	}
}

// checkType holds the three results of Type against a type, where the text
// stands alone and where it stands in others.
func checkType(t *testing.T, s string, want api.Type) {
	t.Helper()
	modelType(t, s)
	checkRead(t, s, want)
	for _, x := range []struct {
		ahead, behind string
		of            func(api.Type) api.Type
	}{
		{"SEQUENCE { a ", " }", func(x api.Type) api.Type { return seq(of("a", x)) }},
		{"SEQUENCE{x ", " OPTIONAL,...,y NULL}", func(x api.Type) api.Type { return open(seq(optional("x", x)), of("y", null)) }},
		{"SEQUENCE { ..., a NULL, b ", " DEFAULT 5 }", func(x api.Type) api.Type {
			return open(seq(), of("a", null), with("b", x, api.Value{Kind: api.Int, N: 5}))
		}},
		{"SEQUENCE OF ", "", list},
		{"CHOICE { a ", ", b NULL }", func(x api.Type) api.Type { return choice(of("a", x), of("b", null)) }},
		{"CHOICE { a NULL, ..., b ", "}", func(x api.Type) api.Type { return open(choice(of("a", null)), of("b", x)) }},
	} {
		checkRead(t, x.ahead+s+x.behind, x.of(want))
	}
	m := "M DEFINITIONS ::= BEGIN A ::= " + s + " B ::= " + s + " END"
	modelModule(t, m)
	if got, at, e := parse.Module([]byte(m)); e != api.OK || at != len(m) || !equal(got, api.Module{Name: "M", Defs: []api.Def{{Name: "A", T: want}, {Name: "B", T: want}}}) {
		t.Errorf("%.300q:\n%+v %d %d", m, got, at, e)
	}
}

// P9.1: each form of type.
func TestTypes(t *testing.T) {
	bits, octets := api.Type{Kind: api.Bits}, api.Type{Kind: api.Octets}
	for _, x := range []struct {
		s string
		t api.Type
	}{
		{"BOOLEAN", flag}, {"NULL", null}, {"INTEGER", num}, {" \t\r\nBOOLEAN -- none\n", flag}, {"--x--NULL--y--", null},
		{"INTEGER (5)", bound(num, one(5))}, {"INTEGER(0..7)", bound(num, span(0, 7))}, {"INTEGER (0..7, ...)", wide(num, span(0, 7))},
		{"ENUMERATED { a }", enum("a")}, {"ENUMERATED{a,b-1,cD}", enum("a", "b-1", "cD")}, {"ENUMERATED { of, true, a }", enum("of", "true", "a")},
		{"ENUMERATED { a, ... }", enumMore("a", "")}, {"ENUMERATED { a, b, ..., c }", enumMore("a b", "c")}, {"ENUMERATED { a, ..., b, c, d }", enumMore("a", "b c d")},
		{"ENUMERATED { a, a, ..., a }", enumMore("a a", "a")},
		{"BIT STRING", bits}, {"OCTET STRING", octets}, {"IA5String", text}, {"BIT -- -- STRING", bits},
		{"BIT STRING (SIZE (8))", bound(bits, one(8))}, {"BIT STRING(SIZE(1..MAX,...))", wide(bits, toMax(1))},
		{"OCTET STRING (SIZE (0..4 | 8))", bound(octets, union(span(0, 4), one(8)))}, {"OCTET STRING (SIZE (2, ...))", wide(octets, one(2))},
		{"IA5String (SIZE (3))", bound(text, one(3))}, {"IA5String (SIZE (3, ...))", wide(text, one(3))},
		{`IA5String (FROM ("ab"))`, from("ab")}, {`IA5String (FROM (""))`, text}, {`IA5String (FROM (" ""~"))`, from(` "~`)},
		{`IA5String (FROM ("ab")) (SIZE (0..3))`, bound(from("ab"), span(0, 3))}, {`IA5String(FROM("A"))(SIZE(MIN..3,...))`, wide(from("A"), fromMin(3))},
		{`IA5String (FROM ("")) (SIZE (1))`, bound(text, one(1))}, {`IA5String (FROM ("(-:"))`, from("(-:")},
		{"SEQUENCE { }", seq()}, {"SEQUENCE{}", seq()}, {"SEQUENCE { ... }", open(seq())}, {"SEQUENCE { ..., a NULL }", open(seq(), of("a", null))},
		{"SEQUENCE { ..., a NULL, b BOOLEAN OPTIONAL }", open(seq(), of("a", null), optional("b", flag))},
		{"SEQUENCE { a NULL }", seq(of("a", null))}, {"SEQUENCE { a NULL, b T, c-1 BOOLEAN }", seq(of("a", null), of("b", ref("T")), of("c-1", flag))},
		{"SEQUENCE { a NULL, ... }", open(seq(of("a", null)))}, {"SEQUENCE { a NULL, b NULL, ..., c NULL, d T }", open(seq(of("a", null), of("b", null)), of("c", null), of("d", ref("T")))},
		{"SEQUENCE { a NULL OPTIONAL, ..., a NULL OPTIONAL }", open(seq(optional("a", null)), optional("a", null))},
		{"SEQUENCE OF NULL", list(null)}, {"SEQUENCE OF SEQUENCE OF T", list(list(ref("T")))}, {"SEQUENCE (SIZE (2)) OF NULL", bound(list(null), one(2))},
		{"SEQUENCE(SIZE(0..MAX,...))OF INTEGER (1)", wide(list(bound(num, one(1))), toMax(0))}, {"SEQUENCE OF INTEGER (1, ...)", list(wide(num, one(1)))},
		{"CHOICE { a NULL }", choice(of("a", null))}, {"CHOICE{a NULL,b SEQUENCE{},...}", open(choice(of("a", null), of("b", seq())))},
		{"CHOICE { a NULL, ..., b T, c CHOICE { a T } }", open(choice(of("a", null)), of("b", ref("T")), of("c", choice(of("a", ref("T")))))},
		{"T", ref("T")}, {"Ab-C-1", ref("Ab-C-1")}, {"Boolean", ref("Boolean")}, {"INTEGERS", ref("INTEGERS")}, {"IA5STRING", ref("IA5STRING")}, {"SET", ref("SET")}, {"OF-A", ref("OF-A")},
	} {
		checkType(t, x.s, x.t)
	}
}

// P9.1: parts with OPTIONAL and with each form of DEFAULT.
func TestParts(t *testing.T) {
	for _, x := range []struct {
		s string
		v api.Value
	}{
		{"TRUE", api.Value{Kind: api.Bool, N: 1}}, {"FALSE", api.Value{Kind: api.Bool}},
		{"0", api.Value{Kind: api.Int}}, {"1", api.Value{Kind: api.Int, N: 1}}, {"-5", api.Value{Kind: api.Int, N: -5}},
		{"9223372036854775807", api.Value{Kind: api.Int, N: 1<<63 - 1}}, {"-9223372036854775807", api.Value{Kind: api.Int, N: -1<<63 + 1}},
		{"a", api.Value{Kind: api.Enum, S: "a"}}, {"b-C", api.Value{Kind: api.Enum, S: "b-C"}}, {"true", api.Value{Kind: api.Enum, S: "true"}}, {"min", api.Value{Kind: api.Enum, S: "min"}},
		{`""`, api.Value{Kind: api.Str}}, {`"ba"`, api.Value{Kind: api.Str, S: "ba"}}, {`"TRUE"`, api.Value{Kind: api.Str, S: "TRUE"}}, {`""""`, api.Value{Kind: api.Str, S: `"`}}, {`"5"`, api.Value{Kind: api.Str, S: "5"}}, {`"a"" -- b"`, api.Value{Kind: api.Str, S: `a" -- b`}},
	} {
		for _, inner := range []struct {
			s string
			t api.Type
		}{
			{"BOOLEAN", flag}, {"INTEGER (0..7)", bound(num, span(0, 7))}, {"T", ref("T")}, {"ENUMERATED { a }", enum("a")}, {"SEQUENCE { }", seq()},
			{"SEQUENCE OF IA5String (SIZE (1))", list(bound(text, one(1)))}, {"SEQUENCE { a NULL DEFAULT 1 }", seq(with("a", null, api.Value{Kind: api.Int, N: 1}))},
		} {
			p := with("b", inner.t, x.v)
			s := "b " + inner.s + " DEFAULT " + x.s
			checkType(t, "SEQUENCE { "+s+" }", seq(p))
			checkType(t, "SEQUENCE { a NULL OPTIONAL, "+s+", c NULL }", seq(optional("a", null), p, of("c", null)))
			checkType(t, "SEQUENCE { "+s+", ..., "+s+", c NULL OPTIONAL }", open(seq(p), p, optional("c", null)))
			checkType(t, "SEQUENCE { ..., "+s+"}", open(seq(), p))
			checkType(t, "SEQUENCE { b "+inner.s+" OPTIONAL, a "+inner.s+" }", seq(optional("b", inner.t), of("a", inner.t)))
		}
	}
}

// P9.1, P7.3: white space and comments between the tokens tell nothing.
func TestSpace(t *testing.T) {
	for _, words := range samples() {
		l := strings.Fields(words)
		plain, _, e := parse.Type([]byte(words))
		if e != api.OK {
			t.Fatal(words, e)
		}
		for _, space := range []string{"\n", "\t \r", "--\n", " -- ) \" A --", "----", " -- ...\n--::=--"} {
			checkType(t, space+strings.Join(l, space)+space, plain)
		}
	}
}

// samples are texts with each form of the grammar of types, in which there is
// white space between all tokens, and none in them.
func samples() []string {
	return []string{
		"BOOLEAN", "NULL", "T", "INTEGER", "INTEGER ( 5 )", "INTEGER ( MIN .. MAX , ... )", "INTEGER ( ( 1 | 2 .. 3 | MIN .. 4 ) EXCEPT ( ( 5 ) ^ 6 .. MAX ^ -7 ) , ... )",
		"ENUMERATED { a }", "ENUMERATED { a , b , ... , c , d }", "BIT STRING ( SIZE ( 8 , ... ) )", "OCTET STRING", "OCTET STRING ( SIZE ( 0 .. 4 ) )",
		`IA5String ( FROM ( "ab" ) ) ( SIZE ( ( 1 ) , ... ) )`, `IA5String ( SIZE ( 1 | 2 ) )`, `IA5String ( FROM ( "" ) )`,
		"SEQUENCE { }", "SEQUENCE { ... }", "SEQUENCE { ... , a NULL OPTIONAL , b T }", "SEQUENCE ( SIZE ( 2 ) ) OF SEQUENCE OF T", "CHOICE { a NULL , b T , ... , c BOOLEAN }",
		`SEQUENCE { a A , b B OPTIONAL , c C DEFAULT TRUE , d D DEFAULT FALSE , e E DEFAULT -1 , f F DEFAULT f , g G DEFAULT "g" , ... , h H OPTIONAL , i I }`,
		"SEQUENCE { a INTEGER ( 1 ) OPTIONAL , b CHOICE { a SEQUENCE OF ENUMERATED { a , ... } , ... } DEFAULT 0 }",
	}
}
