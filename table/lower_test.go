package table_test

import (
	"fmt"
	"math"
	"slices"
	"strings"
	"testing"

	"spandrel/api"
)

// P14.1: the chapter's example, and the rows of types in their order.
func TestRows(t *testing.T) {
	for _, x := range []struct{ entries, want string }{
		// The chapter's example.
		{"M-A ::= SEQUENCE { a M-A OPTIONAL, b M-B }\nM-B ::= NULL", "Seq a:0? b:1\nNull"},
		{"M-A ::= NULL", "Null"},
		{"M-A ::= BOOLEAN", "Bool"},
		{"M-A ::= SEQUENCE { }", "Seq"},
		// Parts, then Adds.
		{"M-A ::= SEQUENCE { a BOOLEAN }", "Seq a:1\nBool"},
		{"M-A ::= SEQUENCE { a BOOLEAN, b NULL, ..., c NULL, d ENUMERATED { a } }", "Seq ext a:1 b:2 +c:3 +d:4\nBool\nNull\nNull\nEnum a"},
		{"M-A ::= SEQUENCE { ..., a BOOLEAN, b NULL }", "Seq ext +a:1 +b:2\nBool\nNull"},
		{"auto M-A ::= CHOICE { a BOOLEAN, b NULL, ..., c NULL, d ENUMERATED { a } }", "Choice ext a:1 b:2 +c:3 +d:4 <0 1>\nBool\nNull\nNull\nEnum a"},
		{"M-A ::= SEQUENCE OF NULL", "SeqOf 0..MAX [0 MAX] of 1\nNull"},
		{"M-A ::= SEQUENCE OF SEQUENCE OF NULL", "SeqOf 0..MAX [0 MAX] of 1\nSeqOf 0..MAX [0 MAX] of 2\nNull"},
		// The rows of one part, and of those within it, ahead of those of the next.
		{"M-A ::= SEQUENCE { a SEQUENCE { a NULL, ..., b BOOLEAN }, b SEQUENCE { a SEQUENCE OF NULL, b NULL }, ..., c SEQUENCE { a BOOLEAN }, d BOOLEAN OPTIONAL }",
			"Seq ext a:1 b:4 +c:8 +d:10?\nSeq ext a:2 +b:3\nNull\nBool\nSeq a:5 b:7\nSeqOf 0..MAX [0 MAX] of 6\nNull\nNull\nSeq a:9\nBool\nBool"},
		{"auto M-A ::= SEQUENCE OF CHOICE { a CHOICE { a NULL, b NULL }, b BOOLEAN }", "SeqOf 0..MAX [0 MAX] of 1\nChoice a:2 b:5 <0 1>\nChoice a:3 b:4 <0 1>\nNull\nNull\nBool"},
		{"auto M-A ::= CHOICE { a SEQUENCE { }, ..., b SEQUENCE OF BOOLEAN, c NULL }", "Choice ext a:1 +b:2 +c:4 <0>\nSeq\nSeqOf 0..MAX [0 MAX] of 3\nBool\nNull"},
	} {
		lowered(t, entries(t, x.entries), "M.A", x.want)
		// Among others.
		others := "\nN-A ::= SEQUENCE { a M-A, b N-B }\nN-B ::= BOOLEAN\nM-AA ::= IA5String"
		lowered(t, entries(t, x.entries+others), "M.A", x.want)
		lowered(t, entries(t, strings.TrimSpace(others)+"\n"+x.entries), "M.A", x.want)
	}
}

// P14.1: what a Ref stands for.
func TestRefs(t *testing.T) {
	for _, x := range []struct{ entries, want string }{
		// Used twice, or more often.
		{"M-A ::= SEQUENCE { a M-B, b M-B }\nM-B ::= NULL", "Seq a:1 b:1\nNull"},
		{"auto M-A ::= SEQUENCE { a M-B, b NULL, c M-B OPTIONAL, ..., d M-B, e BOOLEAN, f SEQUENCE OF M-B }\nM-B ::= NULL",
			"Seq ext a:1 b:2 c:1? +d:1 +e:3 +f:4\nNull\nNull\nBool\nSeqOf 0..MAX [0 MAX] of 1"},
		{"M-A ::= SEQUENCE { a M-B, b M-B }\nM-B ::= SEQUENCE { a M-C, b NULL }\nM-C ::= BOOLEAN", "Seq a:1 b:1\nSeq a:2 b:3\nBool\nNull"},
		// For the first time where it is used first.
		{"M-A ::= SEQUENCE { a BOOLEAN, b M-B, c NULL, d M-B }\nM-B ::= SEQUENCE { a NULL }", "Seq a:1 b:2 c:4 d:2\nBool\nSeq a:3\nNull\nNull"},
		{"M-A ::= SEQUENCE { a SEQUENCE { a SEQUENCE OF M-B }, b M-B }\nM-B ::= BOOLEAN", "Seq a:1 b:3\nSeq a:2\nSeqOf 0..MAX [0 MAX] of 3\nBool"},
		{"M-A ::= SEQUENCE { a M-B, b M-C }\nM-B ::= SEQUENCE { a M-C, b BOOLEAN }\nM-C ::= SEQUENCE { a NULL }", "Seq a:1 b:2\nSeq a:2 b:4\nSeq a:3\nNull\nBool"},
		{"auto M-A ::= SEQUENCE { ..., a M-B, b M-B }\nM-B ::= NULL", "Seq ext +a:1 +b:1\nNull"},
		{"M-A ::= SEQUENCE { a NULL, ..., b M-B }\nM-B ::= NULL", "Seq ext a:1 +b:2\nNull\nNull"},
		// To a Ref, and through several ones.
		{"M-A ::= SEQUENCE { a M-B, b M-C }\nM-B ::= M-C\nM-C ::= NULL", "Seq a:1 b:1\nNull"},
		{"M-A ::= SEQUENCE { a M-C, b M-B }\nM-B ::= M-C\nM-C ::= NULL", "Seq a:1 b:1\nNull"},
		{"M-A ::= SEQUENCE { a M-B, b M-C, c M-D, d M-E, e M-F }\nM-B ::= M-C\nM-C ::= M-D\nM-D ::= BOOLEAN\nM-E ::= M-C\nM-F ::= NULL", "Seq a:1 b:1 c:1 d:1 e:2\nBool\nNull"},
		{"M-A ::= SEQUENCE { a M-D, b M-B, c M-C }\nM-B ::= M-C\nM-C ::= M-D\nM-D ::= SEQUENCE { a BOOLEAN, b M-B OPTIONAL }", "Seq a:1 b:1 c:1\nSeq a:2 b:1?\nBool"},
		{"M-A ::= SEQUENCE { a M-B, b M-C }\nM-B ::= M-D\nM-C ::= M-D\nM-D ::= NULL", "Seq a:1 b:1\nNull"},
		// To the entry itself.
		{"M-A ::= SEQUENCE OF M-A", "SeqOf 0..MAX [0 MAX] of 0"},
		{"M-A ::= CHOICE { a NULL, b SEQUENCE OF M-A }", "Choice a:1 b:2 <0 1>\nNull\nSeqOf 0..MAX [0 MAX] of 0"},
		{"M-A ::= SEQUENCE { a NULL, ..., b M-A }", "Seq ext a:1 +b:0\nNull"},
		{"auto M-A ::= SEQUENCE { a M-B, ..., b M-A, c M-B }\nauto M-B ::= SEQUENCE { a M-A OPTIONAL, b M-B OPTIONAL }", "Seq ext a:1 +b:0 +c:1\nSeq a:0? b:1?"},
		{"M-A ::= SEQUENCE { a M-B OPTIONAL }\nM-B ::= SEQUENCE { a M-C OPTIONAL }\nM-C ::= SEQUENCE { a M-A OPTIONAL }", "Seq a:1?\nSeq a:2?\nSeq a:0?"},
		{"M-A ::= SEQUENCE { a M-B OPTIONAL, b BOOLEAN }\nM-B ::= M-C\nM-C ::= M-A", "Seq a:0? b:1\nBool"},
		// The first one of two entries with the same name.
		{"M-A ::= SEQUENCE { a M-B }\nM-B ::= NULL\nM-B ::= BOOLEAN", "Seq a:1\nNull"},
		{"M-A ::= SEQUENCE { a M-B }\nM-B ::= BOOLEAN\nM-B ::= M-A", "Seq a:1\nBool"},
		{"M-A ::= SEQUENCE { a M-A OPTIONAL }\nM-A ::= BOOLEAN", "Seq a:0?"},
		{"M-A ::= SEQUENCE { a M-B, b M-B }\nM-B ::= M-C\nM-C ::= NULL\nM-C ::= BOOLEAN\nM-B ::= SEQUENCE { }\nM-A ::= M-C", "Seq a:1 b:1\nNull"},
		// From one module into another one.
		{"M-A ::= SEQUENCE { a N-A, b N-B, c M-B }\nN-A ::= N-B\nN-B ::= SEQUENCE { a M-B }\nM-B ::= NULL", "Seq a:1 b:1 c:2\nSeq a:2\nNull"},
		// The first row is that of the name, also where it is a Ref.
		{"M-A ::= M-B\nM-B ::= NULL", "Null"},
		{"auto M-B ::= SEQUENCE { a M-A OPTIONAL, b M-B OPTIONAL, c M-C OPTIONAL, d NULL }\nM-A ::= M-C\nM-C ::= M-B", "Seq a:0? b:0? c:0? d:1\nNull"},
		{"M-A ::= M-B\nM-B ::= SEQUENCE OF M-A", "SeqOf 0..MAX [0 MAX] of 0"},
		{"M-A ::= N-A\nN-A ::= SEQUENCE { a BOOLEAN, b N-B }\nN-B ::= NULL", "Seq a:1 b:2\nBool\nNull"},
	} {
		lowered(t, entries(t, x.entries), "M.A", x.want)
	}
}

// P14.1: each of some names has its own first row.
func TestNames(t *testing.T) {
	l := entries(t, "M-A ::= SEQUENCE { a M-B, b N-A OPTIONAL }\nM-B ::= SEQUENCE { a BOOLEAN, b M-C }\nM-C ::= INTEGER\nN-A ::= M-A\nM-B ::= NULL\nM-D ::= SEQUENCE OF N-A")
	for name, want := range map[string]string{
		"M.A": "Seq a:1 b:0?\nSeq a:2 b:3\nBool\nInt MIN..MAX [MIN MAX]",
		"N.A": "Seq a:1 b:0?\nSeq a:2 b:3\nBool\nInt MIN..MAX [MIN MAX]",
		"M.B": "Seq a:1 b:2\nBool\nInt MIN..MAX [MIN MAX]",
		"M.C": "Int MIN..MAX [MIN MAX]",
		"M.D": "SeqOf 0..MAX [0 MAX] of 1\nSeq a:2 b:1?\nSeq a:3 b:4\nBool\nInt MIN..MAX [MIN MAX]",
	} {
		lowered(t, l, name, want)
	}
	// Names with other dots, and without letters.
	null, flag := api.Type{Kind: api.Null}, api.Type{Kind: api.Bool}
	for _, x := range []struct{ module, own, name string }{
		{"", "", "."}, {"M", "", "M."}, {"", "A", ".A"}, {"M.N", "A", "M.N.A"}, {"M", "N.A", "M.N.A"}, {"M.", ".A", "M...A"}, {"\xff", "\x00", "\xff.\x00"}, {"é", " ", "é. "},
	} {
		l := []api.Entry{{Module: "X", Name: "Y", T: flag}, {Module: x.module, Name: x.own, T: api.Type{Kind: api.Seq, Parts: []api.Part{optional("a", ref(x.name)), part("b", ref("X.Y"))}}}}
		lowered(t, l, x.name, "Seq a:0? b:1\nBool")
	}
	l = []api.Entry{{Module: "M", Name: "N.A", T: null}, {Module: "M.N", Name: "A", T: flag}, {Module: "X", Name: "Y", T: seqOf(ref("M.N.A"))}}
	lowered(t, l, "X.Y", "SeqOf 0..MAX [0 MAX] of 1\nNull")
	lowered(t, l, "M.N.A", "Null")
	slices.Reverse(l)
	lowered(t, l, "X.Y", "SeqOf 0..MAX [0 MAX] of 1\nBool")
	lowered(t, l, "M.N.A", "Bool")
}

// P14.2: the Set, Lo and Hi of each Kind.
func TestSets(t *testing.T) {
	for _, x := range []struct{ bounds, all, sizes string }{
		{"0..7", "0..7 [0 7]", "0..7 [0 7]"},
		{"5", "5..5 [5 5]", "5..5 [5 5]"},
		{"0", "0..0 [0 0]", "0..0 [0 0]"},
		{"0..7 | 9", "0..7 9..9 [0 9]", "0..7 9..9 [0 9]"},
		{"9 | 0..7", "0..7 9..9 [0 9]", "0..7 9..9 [0 9]"},
		{"3..4 | 5..6 | 1", "1..1 3..6 [1 6]", "1..1 3..6 [1 6]"},
		{"-5..5", "-5..5 [-5 5]", "0..5 [0 5]"},
		{"-9 | -5..-3 | 2", "-9..-9 -5..-3 2..2 [-9 2]", "2..2 [2 2]"},
		{"-1 | 0 | 2", "-1..0 2..2 [-1 2]", "0..0 2..2 [0 2]"},
		// Bounds that are open.
		{"MIN..MAX", "MIN..MAX [MIN MAX]", "0..MAX [0 MAX]"},
		{"MIN..5", "MIN..5 [MIN 5]", "0..5 [0 5]"},
		{"5..MAX", "5..MAX [5 MAX]", "5..MAX [5 MAX]"},
		{"0..MAX", "0..MAX [0 MAX]", "0..MAX [0 MAX]"},
		{"-5..MAX", "-5..MAX [-5 MAX]", "0..MAX [0 MAX]"},
		{"MIN..5 | 9..MAX", "MIN..5 9..MAX [MIN MAX]", "0..5 9..MAX [0 MAX]"},
		{"MIN..-5 | 9", "MIN..-5 9..9 [MIN 9]", "9..9 [9 9]"},
		{"(MIN..MAX) EXCEPT 5", "MIN..4 6..MAX [MIN MAX]", "0..4 6..MAX [0 MAX]"},
		{"(MIN..MAX) EXCEPT 0", "MIN..-1 1..MAX [MIN MAX]", "1..MAX [1 MAX]"},
		{"(0..20) ^ (3..MAX) ^ (MIN..9)", "3..9 [3 9]", "3..9 [3 9]"},
		{"9223372036854775807", "MAX..MAX [MAX MAX]", "MAX..MAX [MAX MAX]"},
		{"9223372036854775806..MAX", "9223372036854775806..MAX [9223372036854775806 MAX]", "9223372036854775806..MAX [9223372036854775806 MAX]"},
		{"1048576..1048577", "1048576..1048577 [1048576 1048577]", "1048576..1048577 [1048576 1048577]"},
	} {
		for _, ext := range []string{"", ", ..."} {
			word := ""
			if ext != "" {
				word = "ext "
			}
			for text, want := range map[string]string{
				"INTEGER (%s)":                          "Int " + word + x.all,
				"BIT STRING (SIZE (%s))":                "Bits " + word + x.sizes,
				"OCTET STRING (SIZE (%s))":              "Octets " + word + x.sizes,
				"IA5String (SIZE (%s))":                 "Str " + word + x.sizes,
				"IA5String (FROM (\"ab\")) (SIZE (%s))": "Str " + word + x.sizes + " \"ab\"",
				"SEQUENCE (SIZE (%s)) OF M-B":           "SeqOf " + word + x.sizes + " of 1\nNull",
			} {
				text = fmt.Sprintf(text, x.bounds+ext)
				lowered(t, entries(t, "M-A ::= "+text+"\nM-B ::= NULL"), "M.A", want)
				first, _, _ := strings.Cut(want, "\n")
				lowered(t, entries(t, "M-B ::= NULL\nN-A ::= SEQUENCE { a M-B, ..., b "+text+" OPTIONAL }"), "N.A", "Seq ext a:1 +b:2?\nNull\n"+first)
			}
		}
	}
	for text, want := range map[string]string{
		"INTEGER": "Int MIN..MAX [MIN MAX]", "BIT STRING": "Bits 0..MAX [0 MAX]", "OCTET STRING": "Octets 0..MAX [0 MAX]", "IA5String": "Str 0..MAX [0 MAX]", "SEQUENCE OF M-A": "SeqOf 0..MAX [0 MAX] of 0",
		"BOOLEAN": "Bool", "NULL": "Null", "ENUMERATED { a }": "Enum a", "SEQUENCE { }": "Seq", "CHOICE { a NULL }": "Choice a:1 <0>\nNull",
	} {
		lowered(t, entries(t, "M-A ::= "+text), "M.A", want)
	}
}

// P14.2: of Kinds without a set, a Con does not matter; nor do the ends of a
// constraint that do not count.
func TestConOfOthers(t *testing.T) {
	for kind := api.Bool; kind <= api.Choice; kind++ {
		x := api.Type{Kind: kind, Con: api.Con{Op: api.Span, Lo: 3, Hi: 5}}
		if kind == api.SeqOf {
			x.Elem = []api.Type{{Kind: api.Null}}
		}
		if kind == api.Choice {
			x.Parts = []api.Part{part("a", api.Type{Kind: api.Null})}
		}
		want := map[int]string{api.Bool: "Bool", api.Enum: "Enum", api.Null: "Null", api.Seq: "Seq", api.Choice: "Choice a:1 <0>\nNull", api.SeqOf: "SeqOf 3..5 [3 5] of 1\nNull"}[kind]
		if want == "" {
			want = kindNames[kind] + " 3..5 [3 5]"
		}
		lowered(t, []api.Entry{entry("M.A", false, x)}, "M.A", want)
	}
	open := api.Con{Op: api.Span, Lo: 9, Hi: -9, Low: true, High: true, L: []api.Con{{Op: 77}}}
	lowered(t, []api.Entry{entry("M.A", false, api.Type{Kind: api.Int, Con: open})}, "M.A", "Int MIN..MAX [MIN MAX]")
	lowered(t, []api.Entry{entry("M.A", false, api.Type{Kind: api.Bits, Con: open})}, "M.A", "Bits 0..MAX [0 MAX]")
	ends := api.Con{Op: api.Span, Lo: math.MinInt, Hi: math.MaxInt - 1}
	lowered(t, []api.Entry{entry("M.A", false, api.Type{Kind: api.Int, Con: ends})}, "M.A", "Int MIN..9223372036854775806 [MIN 9223372036854775806]")
}

// P14.2: Ext, From, Names, More, Opt and Def.
func TestFields(t *testing.T) {
	for text, want := range map[string]string{
		"ENUMERATED { a }":                     "Enum a",
		"ENUMERATED { c, a, b }":               "Enum c a b",
		"ENUMERATED { a, ... }":                "Enum ext a",
		"ENUMERATED { a, b, ..., d, c }":       "Enum ext a b +d +c",
		"SEQUENCE { ... }":                     "Seq ext",
		"SEQUENCE { a NULL, ... }":             "Seq ext a:1\nNull",
		"CHOICE { a NULL, ... }":               "Choice ext a:1 <0>\nNull",
		"INTEGER (0..7, ...)":                  "Int ext 0..7 [0 7]",
		"IA5String (FROM (\" az~\"))":          "Str 0..MAX [0 MAX] \" az~\"",
		"IA5String (FROM (\"!\"\"#\"))":        "Str 0..MAX [0 MAX] \"!\\\"#\"",
		"SEQUENCE (SIZE (1..2, ...)) OF M-A":   "SeqOf ext 1..2 [1 2] of 0",
		"SEQUENCE { a NULL OPTIONAL }":         "Seq a:1?\nNull",
		"SEQUENCE { a INTEGER DEFAULT -5 }":    "Seq a:1=2/-5/\nInt MIN..MAX [MIN MAX]",
		"SEQUENCE { a BOOLEAN DEFAULT TRUE }":  "Seq a:1=1/1/\nBool",
		"SEQUENCE { a BOOLEAN DEFAULT FALSE }": "Seq a:1=1/0/\nBool",
		"SEQUENCE { a NULL, b INTEGER DEFAULT 7, c NULL OPTIONAL, d ENUMERATED { x, y } DEFAULT y, ..., e BOOLEAN OPTIONAL, f IA5String DEFAULT \"q\"\"r\", g OCTET STRING }": "Seq ext a:1 b:2=2/7/ c:3? d:4=3/0/y +e:5? +f:6=7/0/q\"r +g:7\nNull\nInt MIN..MAX [MIN MAX]\nNull\nEnum x y\nBool\nStr 0..MAX [0 MAX]\nOctets 0..MAX [0 MAX]",
		// A Def that is not of the type.
		"SEQUENCE { a NULL DEFAULT 5, b M-A DEFAULT x }": "Seq a:1=2/5/ b:0=3/0/x\nNull",
	} {
		if strings.HasPrefix(text, "SEQUENCE (SIZE") {
			// A list of itself with at least one element has no end.
			refused(t, entries(t, "M-A ::= "+text), "M.A", api.ErrDeep)
			text = strings.Replace(text, "M-A", "SEQUENCE { a M-A OPTIONAL }", 1)
			want = "SeqOf ext 1..2 [1 2] of 1\nSeq a:0?"
		}
		lowered(t, entries(t, "auto M-A ::= "+text), "M.A", want)
		lowered(t, entries(t, "auto N-A ::= M-A\nauto M-A ::= "+text), "N.A", want)
	}
}

// P14.2: a Def with lists in it, and more than one.
func TestDefs(t *testing.T) {
	deep := api.Value{Kind: 8, N: -7, S: "s", Names: []string{"a", "b"}, L: []api.Value{{Kind: 9, L: []api.Value{{Kind: 1, N: 1}, {Kind: 7, S: "t", Names: []string{"c"}}}}, {Kind: 77}}}
	x := api.Type{Kind: api.Seq, Parts: []api.Part{
		{Name: "a", T: api.Type{Kind: api.Null}, Def: []api.Value{deep}},
		{Name: "b", T: ref("M.B"), Opt: true, Def: []api.Value{deep, {Kind: 2, N: 5}, deep}},
	}, Adds: []api.Part{
		{Name: "c", T: ref("M.A"), Def: []api.Value{{}, deep}},
		{Name: "d", T: ref("M.A"), Def: []api.Value{}},
	}}
	const word = "=8/-7/s{a,b;9/0/{;1/1/;7/0/t{c}};77/0/}"
	l := []api.Entry{entry("M.A", true, x), entry("M.B", true, api.Type{Kind: api.Bool})}
	lowered(t, l, "M.A", "Seq a:1"+word+" b:2?"+word+"=2/5/"+word+" +c:0=0/0/"+word+" +d:0\nNull\nBool")
}

// P14.1, P14.2: what a type has that its Kind is not to have.
func TestOtherFields(t *testing.T) {
	null, flag := api.Type{Kind: api.Null}, api.Type{Kind: api.Bool}
	full := api.Type{Name: "M.B", Ext: true, From: "ba\xff", Names: []string{"n"}, More: []string{"m", "m"}, Parts: []api.Part{part("a", ref("M.B")), optional("a", null)}, Adds: []api.Part{part("b", flag)}, Elem: []api.Type{ref("M.Gone")}}
	full.Con = api.Con{Op: api.Span, Lo: 1, Hi: 2}
	const rows = "\nStr 0..MAX [0 MAX]\nNull\nBool"
	const all = " \"ba\\xff\" n +m +m a:1 a:2? +b:3"
	for kind := api.Bool; kind <= api.Choice; kind++ {
		x := full
		x.Kind = kind
		want := map[int]string{
			api.Int: "Int ext 1..2 [1 2]" + all + rows, api.Bits: "Bits ext 1..2 [1 2]" + all + rows, api.Octets: "Octets ext 1..2 [1 2]" + all + rows, api.Str: "Str ext 1..2 [1 2]" + all + rows,
			api.Choice: "Choice ext" + all + " <1 0>" + rows,
			// Of a SeqOf, the element comes last.
			api.SeqOf: "SeqOf ext 1..2 [1 2]" + all + " of 4" + rows + "\nEnum",
		}[kind]
		if want == "" {
			want = kindNames[kind] + " ext" + all + rows
		}
		if kind == api.SeqOf {
			x.Elem = []api.Type{{Kind: api.Enum}}
		}
		lowered(t, []api.Entry{entry("M.A", false, x), entry("M.B", false, api.Type{Kind: api.Str})}, "M.A", want)
	}
	// Of a Ref, only the name matters.
	full.Kind = api.Ref
	lowered(t, []api.Entry{entry("M.A", false, full), entry("M.B", false, flag)}, "M.A", "Bool")
	lowered(t, []api.Entry{entry("M.A", false, api.Type{Kind: api.Seq, Parts: []api.Part{part("a", full), part("b", null)}}), entry("M.B", false, flag)}, "M.A", "Seq a:1 b:2\nBool\nNull")
}

// P14.2: the Order of a Choice, by the Auto of the entry in which it stands.
func TestOrder(t *testing.T) {
	const choice = "CHOICE { a NULL, b BOOLEAN, c CHOICE { a IA5String, b SEQUENCE { a CHOICE { a NULL, b INTEGER, c BOOLEAN } } }, ..., d INTEGER }"
	const rows = "Choice ext a:1 b:2 c:3 +d:10 %s\nNull\nBool\nChoice a:4 b:5 %s\nStr 0..MAX [0 MAX]\nSeq a:6\nChoice a:7 b:8 c:9 %s\nNull\nInt MIN..MAX [MIN MAX]\nBool\nInt MIN..MAX [MIN MAX]"
	plain, auto := fmt.Sprintf(rows, "<1 0 2>", "<1 0>", "<2 1 0>"), fmt.Sprintf(rows, "<0 1 2>", "<0 1>", "<0 1 2>")
	lowered(t, entries(t, "M-A ::= "+choice), "M.A", plain)
	lowered(t, entries(t, "auto M-A ::= "+choice), "M.A", auto)
	// Where it is used does not matter.
	lowered(t, entries(t, "M-A ::= M-B\nauto M-B ::= "+choice), "M.A", auto)
	lowered(t, entries(t, "auto M-A ::= M-B\nM-B ::= "+choice), "M.A", plain)
	lowered(t, entries(t, "auto M-A ::= N-A\nM-A ::= "+choice+"\nN-A ::= "+choice), "M.A", plain)
	for text, want := range map[string]string{
		"auto M-A ::= CHOICE { a NULL, b M-B, c CHOICE { a NULL, b BOOLEAN } }\nM-B ::= CHOICE { a NULL, b BOOLEAN }":                                              "<0 1 2> <1 0> <0 1>",
		"M-A ::= CHOICE { a IA5String, b M-B, c NULL }\nauto M-B ::= CHOICE { a NULL, b CHOICE { a NULL, b BOOLEAN } }":                                            "<2 0 1> <0 1> <0 1>",
		"M-A ::= CHOICE { a M-B, b NULL }\nM-B ::= CHOICE { a IA5String, b BOOLEAN }":                                                                              "<0 1> <1 0>",
		"M-A ::= CHOICE { a INTEGER, b M-B, c M-C }\nM-B ::= M-C2\nM-C ::= CHOICE { a IA5String, ..., b BOOLEAN }\nM-C2 ::= CHOICE { a NULL, b ENUMERATED { a } }": "<2 0 1> <0 1> <0>",
		"M-A ::= CHOICE { a SEQUENCE { a M-A }, b NULL }":                                                                                                          "<1 0>",
		"M-A ::= SEQUENCE OF CHOICE { a NULL, b BOOLEAN }":                                                                                                         "<1 0>",
		"M-A ::= SEQUENCE { a NULL, b BOOLEAN, ..., c CHOICE { a NULL, b BOOLEAN } }":                                                                              "<1 0>",
		"M-A ::= CHOICE { a ENUMERATED { a }, b OCTET STRING, c INTEGER, d IA5String, e BOOLEAN, f SEQUENCE { }, g BIT STRING, h NULL }":                           "<4 2 6 1 7 0 5 3>",
	} {
		d, e := holdLower(t, entries(t, text), "M.A")
		if got := orders(d); got != want || e != api.OK {
			t.Errorf("%s has the orders %s, not %s", text, got, want)
		}
	}
}

// orders are the Orders of a table, as a text.
func orders(d []api.Desc) string {
	var l []string
	for _, r := range d {
		if r.Kind == api.Choice {
			l = append(l, strings.NewReplacer("[", "<", "]", ">").Replace(fmt.Sprint(r.Order)))
		}
	}
	return strings.Join(l, " ")
}
