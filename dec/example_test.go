package dec_test

import (
	"slices"
	"testing"

	"spandrel/api"
	"spandrel/dec"
)

// P17.1: the chapter's examples, and those of the document, read back.
func TestExamples(t *testing.T) {
	d := rows(t, "INTEGER (0..7)")
	octetsAre(t, d, api.OK, integer(5), 160)
	octetsAre(t, d, api.ErrForm, api.Value{}, 161)
	octetsAre(t, d, api.ErrShort, api.Value{})
	octetsAre(t, rows(t, "INTEGER"), api.OK, integer(-1), 1, 255)
	d = rows(t, "SEQUENCE { a BOOLEAN OPTIONAL, b NULL }")
	octetsAre(t, d, api.OK, seq("a b", boolean(1), null()), 192)
	octetsAre(t, d, api.OK, seq("b", null()), 0)
	octetsAre(t, rows(t, "ENUMERATED { a, b, c }"), api.OK, item("c"), 128)
	octetsAre(t, rows(t, "ENUMERATED { a, ..., b, c }"), api.OK, item("c"), 129)
	d = untagged(t, "CHOICE { a NULL, b BOOLEAN }")
	octetsAre(t, d, api.OK, alternative("b", boolean(1)), 64)
	octetsAre(t, d, api.OK, alternative("b", boolean(0)), 0)
	octetsAre(t, d, api.OK, alternative("a", null()), 128)
	// In one of the variants.
	for _, x := range []struct {
		text    string
		aligned bool
		value   api.Value
		b       []byte
	}{
		{"INTEGER (0..7, ...)", true, integer(9), []byte{128, 1, 9}},
		{"INTEGER (0..7, ...)", false, integer(9), []byte{128, 128 | 4, 128}},
		{"SEQUENCE OF BOOLEAN", false, list(boolean(1), boolean(0)), []byte{2, 128}},
	} {
		if v, e := hold(t, rows(t, x.text), x.aligned, x.b); e != api.OK || told(v) != told(x.value) {
			t.Errorf("%s, aligned %v: %s, %d, not %s", x.text, x.aligned, shown(v), e, shown(x.value))
		}
	}
	// Nested 40 deep, and 41 deep.
	d = rows(t, "A ::= SEQUENCE { a A OPTIONAL }")
	v := seq("")
	for range 39 {
		v = seq("a", v)
	}
	octetsAre(t, d, api.OK, v, 255, 255, 255, 255, 254)
	octetsAre(t, d, api.ErrDeep, api.Value{}, 255, 255, 255, 255, 255)
	// Of a newer type, z alone is seen.
	now, old := rows(t, "SEQUENCE { z NULL, ..., a INTEGER }"), rows(t, "SEQUENCE { z NULL, ... }")
	const text = "1 0 000000 1 - 00000010 00000001 00000101"
	decoded(t, now, aligning(seq("z a", null(), integer(5)), text))
	decoded(t, old, aligning(seq("z", null()), text))
}

// P17.1: ErrArg for a table that is not valid, ahead of any other error.
func TestTables(t *testing.T) {
	right := func() []api.Desc {
		return rows(t, "A ::= SEQUENCE { a A OPTIONAL, b BOOLEAN DEFAULT TRUE, c INTEGER (0..3) }")
	}
	octetsAre(t, right(), api.OK, seq("b c", boolean(1), integer(2)), 32)
	var wrong [][]api.Desc
	for _, change := range []func(d []api.Desc) []api.Desc{
		func([]api.Desc) []api.Desc { return nil },
		func([]api.Desc) []api.Desc { return []api.Desc{} },
		func([]api.Desc) []api.Desc { return slices.Repeat([]api.Desc{{Kind: api.Null}}, 4097) },
		func(d []api.Desc) []api.Desc { d[0].Parts[0].T = 3; return d },
		func(d []api.Desc) []api.Desc { d[0].Parts[0].T = -1; return d },
		func(d []api.Desc) []api.Desc { d[0].Parts[1].Def[0].N = 2; return d },
		func(d []api.Desc) []api.Desc { d[0].Parts[1].Def[0] = null(); return d },
		func(d []api.Desc) []api.Desc { d[0].Parts[1].Opt = true; return d },
		func(d []api.Desc) []api.Desc { d[0].Adds = d[0].Parts[:1]; return d },
		func(d []api.Desc) []api.Desc { d[0].Order = []int{0}; return d },
		func(d []api.Desc) []api.Desc { d[1].Kind = api.Ref; return d },
		func(d []api.Desc) []api.Desc { d[1].Kind = 0; return d },
		func(d []api.Desc) []api.Desc { d[2].Set = nil; return d },
		func(d []api.Desc) []api.Desc { d[2].Hi++; return d },
		func(d []api.Desc) []api.Desc { d[2].Lo++; return d },
		func(d []api.Desc) []api.Desc { return append(d, api.Desc{Kind: api.Choice}) },
		func(d []api.Desc) []api.Desc { return append(d, api.Desc{Kind: api.SeqOf}) },
	} {
		wrong = append(wrong, change(right()))
	}
	for _, d := range wrong {
		octetsAre(t, d, api.ErrArg, api.Value{})
		octetsAre(t, d, api.ErrArg, api.Value{}, 32)
		octetsAre(t, d, api.ErrArg, api.Value{}, 32, 1)
		octetsAre(t, d, api.ErrArg, api.Value{}, 255, 255, 255, 255, 255, 255)
	}
	// As many rows as there may be.
	all := slices.Repeat([]api.Desc{{Kind: api.Null}}, 4096)
	if v, e := dec.Decode(all, true, []byte{0}); e != api.OK || told(v) != told(null()) {
		t.Error(shown(v), e)
	}
}

// P17.1: Bool, and Null.
func TestBool(t *testing.T) {
	d := rows(t, "BOOLEAN")
	decoded(t, d, same(boolean(0), "0"), same(boolean(1), "1"))
	octetsAre(t, d, api.ErrShort, api.Value{})
	octetsAre(t, d, api.ErrForm, api.Value{}, 64)
	octetsAre(t, d, api.ErrForm, api.Value{}, 129)
	octetsAre(t, d, api.ErrForm, api.Value{}, 128, 0)
	d = rows(t, "NULL")
	decoded(t, d, same(null(), ""))
	// What stream.Reader.End refuses where no bit was read.
	octetsAre(t, d, api.ErrForm, api.Value{})
	octetsAre(t, d, api.ErrForm, api.Value{}, 1)
	octetsAre(t, d, api.ErrForm, api.Value{}, 128)
	octetsAre(t, d, api.ErrForm, api.Value{}, 0, 0)
	d = rows(t, "SEQUENCE { a NULL, b BOOLEAN, c NULL, d BOOLEAN }")
	decoded(t, d, same(seq("a b c d", null(), boolean(0), null(), boolean(1)), "01"))
}

// P17.1: what stream.Reader.End refuses.
func TestEnd(t *testing.T) {
	d := rows(t, "SEQUENCE { a INTEGER (0..127), b BOOLEAN OPTIONAL }")
	decoded(t, d, same(seq("a", integer(5)), "0 0000101"), same(seq("a b", integer(5), boolean(1)), "1 0000101 1"))
	octetsAre(t, d, api.OK, seq("a", integer(0)), 0)
	octetsAre(t, d, api.ErrForm, api.Value{}, 5, 0)
	octetsAre(t, d, api.ErrForm, api.Value{}, 5, 128)
	octetsAre(t, d, api.ErrForm, api.Value{}, 5, 1)
	octetsAre(t, d, api.ErrForm, api.Value{}, 133, 129)
	octetsAre(t, d, api.ErrForm, api.Value{}, 133, 192)
	octetsAre(t, d, api.ErrForm, api.Value{}, 133, 128, 0)
	octetsAre(t, d, api.ErrForm, api.Value{}, 133, 128, 255)
	octetsAre(t, d, api.ErrShort, api.Value{}, 133)
	octetsAre(t, d, api.ErrShort, api.Value{})
}

// P17.1: Enum, with names of Names and of More.
func TestEnum(t *testing.T) {
	d := rows(t, "ENUMERATED { c, a, b }")
	decoded(t, d, same(item("c"), "00"), same(item("a"), "01"), same(item("b"), "10"), wrong(api.ErrConstraint, "11"))
	octetsAre(t, d, api.ErrShort, api.Value{})
	decoded(t, rows(t, "ENUMERATED { a }"), same(item("a"), ""))
	decoded(t, rows(t, "ENUMERATED { a, ... }"), same(item("a"), "0"), wrong(api.ErrUnknown, "1 0 000000"), wrong(api.ErrForm, "0 0000001"))
	d = rows(t, "ENUMERATED { b, a, ..., c }")
	decoded(t, d, same(item("b"), "00"), same(item("a"), "01"), same(item("c"), "1 0 000000"), wrong(api.ErrUnknown, "1 0 000001"), wrong(api.ErrUnknown, "1 0 111111"))
	octetsAre(t, d, api.ErrForm, api.Value{}, 128, 0)
	octetsAre(t, d, api.ErrShort, api.Value{})
	// The longer form of a number that is small as a rule.
	decoded(t, d, wrong(api.ErrUnknown, "1 1 - 00000001 01000000"), wrong(api.ErrUnknown, "1 1 - 00001000 01111111"+sevens(ones)), wrong(api.ErrForm, "1 1 - 00000001 00111111"),
		wrong(api.ErrForm, "1 1 - 00000000"), wrong(api.ErrForm, "1 1 - 00000010 00000000 11111111"), wrong(api.ErrForm, "1 1 - 11000001"), wrong(api.ErrForm, "1 1 - 11000000"), wrong(api.ErrForm, "1 1 - 10000000 00000001"),
		wrong(api.ErrLarge, "1 1 - 00001000 10000000"+sevens(zeros)), wrong(api.ErrLarge, "1 1 - 00001001 00000001"+sevens(zeros)+zeros), wrong(api.ErrShort, "1 1 - 00000010 00000001"))
	// In the aligned variant, ones ahead of the length.
	if _, e := hold(t, d, true, []byte{0b11000001, 1, 64}); e != api.ErrForm {
		t.Error(e)
	}
	d = rows(t, "ENUMERATED { a, ..., "+numbered("m", 256, "")+" }")
	decoded(t, d, same(item("m0"), "1 0 000000"), same(item("m63"), "1 0 111111"),
		aligning(item("m64"), "1 1 - 00000001 01000000"), aligning(item("m255"), "1 1 - 00000001 11111111"), wrong(api.ErrUnknown, "1 1 - 00000010 00000001 00000000"))
	d = rows(t, "ENUMERATED { a, ..., "+numbered("m", 64, "")+" }")
	decoded(t, d, same(item("m63"), "1 0 111111"), wrong(api.ErrUnknown, "1 1 - 00000001 01000000"))
	d = rows(t, "ENUMERATED { "+numbered("n", 255, "")+", ... }")
	decoded(t, d, same(item("n254"), "0 11111110"), wrong(api.ErrConstraint, "0 11111111"))
	d = rows(t, "ENUMERATED { "+numbered("n", 256, "")+", ..., m }")
	decoded(t, d, aligning(item("n255"), "0 - 11111111"), same(item("m"), "1 0 000000"))
	// A table's names may be any strings.
	d = []api.Desc{{Kind: api.Enum, Ext: true, Names: []string{"\xff", ""}, More: []string{"A B"}}}
	decoded(t, d, same(item("\xff"), "0 0"), same(item(""), "0 1"), same(item("A B"), "1 0 000000"))
}
