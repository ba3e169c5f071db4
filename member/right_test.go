package member_test

import (
	"math"
	"slices"
	"strings"
	"testing"

	"spandrel/api"
	"spandrel/member"
)

// withDefault are tables with a part of a type that has a Def: a part of Parts,
// the only one, the first one and the last one, a part of Adds, and of a row that
// is not the first one.
func withDefault(t *testing.T, text string, v api.Value) [][]api.Desc {
	t.Helper()
	var all [][]api.Desc
	for _, x := range []struct {
		text     string
		row, add int
	}{
		{"A ::= SEQUENCE { p B }", 0, -1}, {"A ::= SEQUENCE { p B, q NULL, r BOOLEAN OPTIONAL }", 0, -1}, {"A ::= SEQUENCE { q B, r B OPTIONAL, p B }", 0, -1},
		{"A ::= SEQUENCE { q NULL, ..., p B }", 0, 0}, {"A ::= SEQUENCE { ..., q B OPTIONAL, p B }", 0, 1}, {"A ::= SEQUENCE { q B, ..., p B, r NULL }", 0, 0},
		{"A ::= SEQUENCE OF C C ::= SEQUENCE { q B, p B }", 1, -1}, {"A ::= CHOICE { b C, ..., c NULL } C ::= SEQUENCE { a A OPTIONAL, ..., p B }", 1, 0},
	} {
		d := rows(t, strings.ReplaceAll(x.text, " C ::=", "\nC ::=")+"\nB ::= "+text)
		parts := d[x.row].Parts
		if x.add >= 0 {
			parts = d[x.row].Adds[x.add:]
		}
		k := slices.IndexFunc(parts, func(p api.Field) bool { return p.Name == "p" })
		parts[k].Def = []api.Value{v}
		all = append(all, d)
	}
	return all
}

// P15.1: a Def of each Kind, which belongs to the row of its part.
func TestRightDefault(t *testing.T) {
	for _, x := range []struct {
		text   string
		values []api.Value
	}{
		{"BOOLEAN", []api.Value{boolean(0), boolean(1)}},
		{"INTEGER", []api.Value{integer(0), integer(-1), integer(math.MinInt), integer(math.MaxInt)}},
		{"INTEGER (1..3 | 5)", []api.Value{integer(1), integer(2), integer(3), integer(5)}},
		{"INTEGER (1..3, ...)", []api.Value{integer(1), integer(0), integer(4), integer(math.MinInt)}},
		{"ENUMERATED { a, b, ..., c }", []api.Value{item("a"), item("b"), item("c")}},
		{"IA5String", []api.Value{str(""), str("a"), str("\x00\x7f")}},
		{`IA5String (FROM ("ab")) (SIZE (1..2))`, []api.Value{str("a"), str("ba")}},
		{`IA5String (FROM ("ab")) (SIZE (1..2, ...))`, []api.Value{str(""), str("ba"), str("aaa")}},
	} {
		for _, v := range x.values {
			for _, d := range withDefault(t, x.text, v) {
				holdRight(t, d, true)
			}
		}
	}
}

// P15.1: a Def that belongs to the row of its part, but is of a Kind of which there
// are no defaults.
func TestRightDefaultKind(t *testing.T) {
	for _, x := range []struct {
		text   string
		values []api.Value
	}{
		{"NULL", []api.Value{null()}}, {"BIT STRING", []api.Value{bits(""), bits("01")}}, {"OCTET STRING", []api.Value{octets(""), octets("a")}},
		{"SEQUENCE { }", []api.Value{seq("")}}, {"SEQUENCE { a BOOLEAN }", []api.Value{seq("a", boolean(1))}},
		{"SEQUENCE OF NULL", []api.Value{list(), list(null())}}, {"CHOICE { a NULL }", []api.Value{alternative("a", null())}},
	} {
		for _, v := range x.values {
			if got := broken(rows(t, x.text), 0, v); len(got) > 0 {
				t.Errorf("%s of %s breaks %s", told(v), x.text, got)
			}
			for _, d := range withDefault(t, x.text, v) {
				holdRight(t, d, false)
			}
		}
	}
}

// P15.1: a Def that does not belong to the row of its part.
func TestRightNoDefault(t *testing.T) {
	for _, x := range []struct {
		text   string
		values []api.Value
	}{
		{"BOOLEAN", []api.Value{boolean(2), boolean(-1), integer(1), item("a"), str(""), null(), {}, {Kind: 11}, {Kind: -1, N: 1}, {Kind: api.Bool, S: "a"}, {Kind: api.Bool, Names: []string{""}}, {Kind: api.Bool, L: []api.Value{{}}}}},
		{"INTEGER", []api.Value{boolean(1), item("a"), str("1"), {Kind: api.Int, S: "a"}, {Kind: api.Int, N: 5, Names: []string{"a"}}, {Kind: api.Int, L: []api.Value{integer(1)}}}},
		{"INTEGER (1..3 | 5)", []api.Value{integer(0), integer(4), integer(6), boolean(1), {Kind: api.Int, N: 5, S: "5"}}},
		{"INTEGER (1..3, ...)", []api.Value{boolean(1), {Kind: api.Int, N: 2, S: "2"}}},
		{"ENUMERATED { a, b, ..., c }", []api.Value{item("d"), item(""), item("A"), str("a"), {Kind: api.Enum, S: "a", N: 1}, {Kind: api.Enum, S: "c", Names: []string{"c"}}}},
		{"IA5String", []api.Value{str("\x80"), str("é"), item("a"), octets("a"), bits("0"), {Kind: api.Str, S: "a", N: 1}, str(strings.Repeat("a", api.MaxLength+1))}},
		{`IA5String (FROM ("ab")) (SIZE (1..2))`, []api.Value{str(""), str("aaa"), str("c"), str("ac")}},
		{`IA5String (FROM ("ab")) (SIZE (1..2, ...))`, []api.Value{str("c"), str("aac"), str("aacaa")}},
		{"NULL", []api.Value{boolean(0), integer(0), str(""), item("")}}, {"BIT STRING", []api.Value{str("01"), bits("2")}}, {"OCTET STRING", []api.Value{str("a")}},
		{"SEQUENCE { }", []api.Value{str(""), list()}}, {"SEQUENCE OF INTEGER", []api.Value{integer(1), list(null())}}, {"CHOICE { a NULL }", []api.Value{item("a")}},
	} {
		for _, v := range x.values {
			for _, d := range withDefault(t, x.text, v) {
				holdRight(t, d, false)
			}
		}
	}
}

// P15.1: a default as long as it may be.
func TestRightLongDefault(t *testing.T) {
	for _, text := range []string{"IA5String", "IA5String (SIZE (1..2, ...))"} {
		for _, d := range withDefault(t, text, str(strings.Repeat("a", api.MaxLength)))[:4] {
			if !member.Right(d) {
				t.Error(text)
			}
		}
		for _, d := range withDefault(t, text, str(strings.Repeat("a", api.MaxLength+1)))[:4] {
			if member.Right(d) {
				t.Error(text)
			}
		}
	}
}

// P15.1: several defaults, each of which counts.
func TestRightDefaults(t *testing.T) {
	text := `A ::= SEQUENCE { a BOOLEAN DEFAULT TRUE, b INTEGER (1..5) DEFAULT 5, c NULL OPTIONAL, ..., d ENUMERATED { x, ..., y } DEFAULT y, e IA5String (FROM ("a")) DEFAULT "aa", f B }
		B ::= CHOICE { a A, b SEQUENCE { g INTEGER DEFAULT -7, ..., h B, i BOOLEAN DEFAULT FALSE } }`
	d := rows(t, text)
	holdRight(t, d, true)
	changed := 0
	for k := range d {
		for _, parts := range []func(*api.Desc) []api.Field{func(r *api.Desc) []api.Field { return r.Parts }, func(r *api.Desc) []api.Field { return r.Adds }} {
			for p, x := range parts(&d[k]) {
				for _, v := range x.Def {
					for _, other := range []api.Value{null(), boolean(2), integer(6), item("z"), str("b")} {
						if x.Name == "g" && other.Kind == api.Int {
							continue
						}
						parts(&d[k])[p].Def = []api.Value{other}
						holdRight(t, d, false)
						changed++
					}
					parts(&d[k])[p].Def = []api.Value{v}
					holdRight(t, d, true)
				}
			}
		}
	}
	if changed != 29 {
		t.Error(changed)
	}
}

// P15.1: tables that are not valid.
func TestRightTable(t *testing.T) {
	whole := rows(t, "INTEGER")[0]
	for _, d := range [][]api.Desc{
		nil, {}, {{}}, {{Kind: 11}}, {{Kind: -1}}, {{Kind: api.Bool, Ext: true}}, {{Kind: api.Int}}, {{Kind: api.Int, Set: whole.Set}}, {{Kind: api.Octets, Set: whole.Set, Lo: whole.Lo, Hi: whole.Hi}},
		{{Kind: api.Enum}}, {{Kind: api.Null, Elem: 1}}, {{Kind: api.Choice}}, {{Kind: api.Seq, Parts: []api.Field{{Name: "a", T: 1}}}}, {{Kind: api.Bool}, {}}, {whole, {Kind: api.Int}},
		{{Kind: api.Seq, Parts: []api.Field{{Name: "a", T: 1, Opt: true, Def: []api.Value{boolean(1)}}}}, {Kind: api.Bool}},
		{{Kind: api.Seq, Parts: []api.Field{{Name: "a", T: 1, Def: []api.Value{boolean(1), boolean(1)}}}}, {Kind: api.Bool}},
		{{Kind: api.Seq, Parts: []api.Field{{Name: "a", T: 2, Def: []api.Value{boolean(1)}}}}, {Kind: api.Bool}},
		{{Kind: api.Seq, Parts: []api.Field{{Name: "a", T: -1, Def: []api.Value{boolean(1)}}}}, {Kind: api.Bool}},
		{{Kind: api.Choice, Parts: []api.Field{{Name: "a", T: 1, Def: []api.Value{boolean(1)}}}, Order: []int{0}}, {Kind: api.Bool}},
		{{Kind: api.Choice, Ext: true, Parts: []api.Field{{Name: "a", T: 1}}, Adds: []api.Field{{Name: "b", T: 1, Def: []api.Value{boolean(1)}}}, Order: []int{0}}, {Kind: api.Bool}},
		{{Kind: api.Bool, Parts: []api.Field{{Name: "a", T: 1, Def: []api.Value{boolean(1)}}}}, {Kind: api.Bool}},
		slices.Repeat([]api.Desc{{Kind: api.Null}}, 4097),
	} {
		holdRight(t, d, false)
		for _, v := range []api.Value{{}, null(), boolean(1), integer(5), seq("a", boolean(1)), alternative("a", boolean(1))} {
			fails(t, d, v, api.ErrArg)
		}
	}
	holdRight(t, slices.Repeat([]api.Desc{{Kind: api.Null}}, 4096), true)
}
