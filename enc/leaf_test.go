package enc_test

import (
	"slices"
	"testing"

	"spandrel/api"
	"spandrel/enc"
	"spandrel/stream"
)

// leaf is a type of a Kind that Leaf writes, a value that belongs to it, one that
// does not, and the digits of both variants behind the bits 111.
type leaf struct {
	text              string
	value, other      api.Value
	unaligned, padded string
}

// leaves are one for each Kind, with Ext and without it.
func leaves() []leaf {
	return []leaf{
		{"BOOLEAN", boolean(1), boolean(2), "1", "1"},
		{"INTEGER", integer(-1), item("a"), "00000001 11111111", "- 00000001 11111111"},
		{"INTEGER (0..7)", integer(5), integer(8), "101", "101"},
		{"INTEGER (0..255)", integer(5), integer(256), "00000101", "- 00000101"},
		{"INTEGER (1..MAX, ...)", integer(0), null(), "1 00000001 00000000", "1 - 00000001 00000000"},
		{"ENUMERATED { a, b, c }", item("c"), item("d"), "10", "10"},
		{"ENUMERATED { a, ..., b, c }", item("c"), item("d"), "1 0 000001", "1 0 000001"},
		{"NULL", null(), boolean(1), "", ""},
		{"BIT STRING", bits("10"), bits("2"), "00000010 10", "- 00000010 10"},
		{"BIT STRING (SIZE (1..2, ...))", bits("10"), octets("10"), "0 1 10", "0 1 - 10"},
		{"OCTET STRING (SIZE (2))", octets("\x07\x08"), octets("\x07"), "00000111 00001000", "00000111 00001000"},
		{"OCTET STRING (SIZE (0..1, ...))", octets("\x07\x08"), bits("0"), "1 00000010 00000111 00001000", "1 - 00000010 00000111 00001000"},
		{"IA5String (SIZE (0..2))", str("a"), str("\x80"), "01 1100001", "01 - 01100001"},
		{`IA5String (FROM ("ab")) (SIZE (0..3, ...))`, str("b"), str("c"), "0 01 1", "0 01 1"},
	}
}

// P16.3: what Leaf writes behind what is there already.
func TestLeaf(t *testing.T) {
	for _, x := range leaves() {
		d := rows(t, x.text)
		for _, aligned := range variants {
			want := spelled("111" + x.unaligned)
			if aligned {
				want = spelled("111" + x.padded)
			}
			w := writer(3)
			if e := enc.Leaf(w, aligned, d[0], x.value); e != api.OK {
				t.Errorf("%s of %s, aligned %v: %d", shown(x.value), x.text, aligned, e)
			}
			holdBits(t, w, want)
			// What is written next follows.
			w.Put(1, 2)
			holdBits(t, w, want+"01")
		}
		hold(t, d, x.value)
	}
}

// P16.3: several leaves, one behind the other.
func TestLeaves(t *testing.T) {
	for _, aligned := range variants {
		var w stream.Writer
		var p page
		p.aligned = aligned
		for range 10 {
			for _, x := range leaves() {
				d := rows(t, x.text)
				if e := enc.Leaf(&w, aligned, d[0], x.value); e != api.OK {
					t.Fatal(x.text, e)
				}
				p.value(d, 0, x.value)
				holdBits(t, &w, p.String())
				if e := enc.Leaf(&w, aligned, d[0], x.other); e != api.ErrConstraint {
					t.Fatal(x.text, e)
				}
				holdBits(t, &w, p.String())
			}
		}
	}
}

// leafFails holds the error of a leaf, in both variants, and that nothing is written then.
func leafFails(t *testing.T, r api.Desc, v api.Value, want api.Errno) {
	t.Helper()
	for _, aligned := range variants {
		w := writer(3)
		if e := enc.Leaf(w, aligned, r, v); e != want {
			t.Errorf("%s of %s, aligned %v: %d, not %d", shown(v), shown(r), aligned, e, want)
		}
		holdBits(t, w, "111")
		if e := enc.Leaf(nil, aligned, r, v); e != api.ErrArg {
			t.Errorf("%s of %s, aligned %v, without a Writer: %d", shown(v), shown(r), aligned, e)
		}
	}
}

// P16.3: a value that does not belong to the row, or is nested too deep.
func TestLeafConstraint(t *testing.T) {
	deep := list()
	for range 40 {
		deep = list(deep)
	}
	for _, x := range leaves() {
		d := rows(t, x.text)
		leafFails(t, d[0], x.other, api.ErrConstraint)
		leafFails(t, d[0], api.Value{}, api.ErrConstraint)
		leafFails(t, d[0], list(x.value), api.ErrConstraint)
		leafFails(t, d[0], deep.L[0], api.ErrConstraint)
		leafFails(t, d[0], deep, api.ErrDeep)
		v := x.value
		v.L = []api.Value{null()}
		leafFails(t, d[0], v, api.ErrConstraint)
		v = x.value
		v.Kind = api.Seq
		leafFails(t, d[0], v, api.ErrConstraint)
	}
}

// P16.3: the Kinds of a row that Leaf refuses, before any other error.
func TestLeafKinds(t *testing.T) {
	deep := list()
	for range 40 {
		deep = list(deep)
	}
	for _, x := range []struct {
		text  string
		value api.Value
	}{
		{"SEQUENCE { }", seq("")}, {"SEQUENCE { ... }", seq("")}, {"A ::= SEQUENCE { a A OPTIONAL }", seq("")}, {"SEQUENCE { a NULL OPTIONAL }", seq("")},
		{"SEQUENCE (SIZE (0)) OF NULL", list()}, {"A ::= SEQUENCE OF A", list()},
		{"A ::= CHOICE { a NULL, b A }", alternative("a", null())}, {"A ::= CHOICE { a A, b NULL }", alternative("b", null())},
	} {
		d := rows(t, x.text)
		leafFails(t, d[0], x.value, api.ErrArg)
		leafFails(t, d[0], null(), api.ErrArg)
		leafFails(t, d[0], deep, api.ErrArg)
		d[0].Lo++
		leafFails(t, d[0], x.value, api.ErrArg)
	}
}

// P16.3: rows that are not valid by themselves, before an error of the value.
func TestLeafRows(t *testing.T) {
	deep := list()
	for range 40 {
		deep = list(deep)
	}
	wrong := []api.Desc{
		{}, {Kind: -1}, {Kind: api.Ref}, {Kind: 12}, {Kind: 1 << 62},
		{Kind: api.Bool, Ext: true}, {Kind: api.Null, Elem: 1}, {Kind: api.Null, From: "a"}, {Kind: api.Null, Names: []string{"a"}}, {Kind: api.Bool, Lo: 1},
		{Kind: api.Int}, {Kind: api.Int, Set: []api.Range{{Lo: 1, Hi: 0}}, Lo: 1}, {Kind: api.Int, Set: []api.Range{{Lo: 0, Hi: 7}}, Hi: 8}, {Kind: api.Int, Set: []api.Range{{Lo: 0, Hi: 7}, {Lo: 8, Hi: 9}}, Hi: 9},
		{Kind: api.Enum}, {Kind: api.Enum, Names: []string{"a", "a"}}, {Kind: api.Enum, Names: []string{"a"}, More: []string{"b"}}, {Kind: api.Enum, Ext: true, Names: []string{"a"}, More: []string{"a"}}, {Kind: api.Enum, Ext: true, More: []string{"a"}},
		{Kind: api.Bits}, {Kind: api.Bits, Set: []api.Range{{Lo: -1, Hi: 1}}, Lo: -1, Hi: 1}, {Kind: api.Octets, Set: []api.Range{{Lo: 0, Hi: 1}}, Hi: 1, From: "a"},
		{Kind: api.Str, Set: []api.Range{{Lo: 0, Hi: 1}}, Hi: 1, From: "ba"}, {Kind: api.Str, Set: []api.Range{{Lo: 0, Hi: 1}}, Hi: 1, From: "a\x80"},
		{Kind: api.Bool, Parts: []api.Field{{Name: "a"}}}, {Kind: api.Bool, Adds: []api.Field{{Name: "a"}}}, {Kind: api.Bool, Order: []int{0}},
	}
	for _, r := range wrong {
		for _, x := range leaves() {
			leafFails(t, r, x.value, api.ErrArg)
		}
		leafFails(t, r, api.Value{}, api.ErrArg)
		leafFails(t, r, deep, api.ErrArg)
	}
	// What a row refers to is not there, also if the row was part of a table.
	d := rows(t, "SEQUENCE { a BOOLEAN DEFAULT TRUE, b NULL }")
	leafFails(t, d[0], seq("b", null()), api.ErrArg)
	for _, r := range d[1:] {
		leafFails(t, r, str("a"), api.ErrConstraint)
	}
}

// P16.3: long strings, behind bits that do not fill an octet.
func TestLongLeaf(t *testing.T) {
	for _, size := range []int{16384, 70000} {
		for kind, text := range map[int]string{api.Bits: "BIT STRING", api.Octets: "OCTET STRING", api.Str: "IA5String"} {
			d := rows(t, text)
			x := long(kind, size)
			for _, aligned := range variants {
				holdLeaf(t, d[0], aligned, x.value)
			}
		}
	}
	x := long(api.Octets, 16384)
	w := writer(3)
	if e := enc.Leaf(w, true, rows(t, "OCTET STRING")[0], x.value); e != api.OK {
		t.Error(e)
	}
	holdBits(t, w, spelled("111 - 11000001"+x.padded+"00000000"))
}

// R3: neither the row nor the value is changed, nor kept by the Writer.
func TestLeafKeepsNothing(t *testing.T) {
	r := api.Desc{Kind: api.Enum, Ext: true, Names: []string{"a", "b"}, More: []string{"c"}}
	names := slices.Clone(r.Names)
	v := item("b")
	w := writer(1)
	if e := enc.Leaf(w, false, r, v); e != api.OK || !slices.Equal(r.Names, names) {
		t.Error(e, r.Names)
	}
	r.Names[0], r.Names[1] = "x", "y"
	holdBits(t, w, "101")
}
