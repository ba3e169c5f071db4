package dec_test

import (
	"slices"
	"strings"
	"testing"

	"spandrel/api"
	"spandrel/dec"
	"spandrel/enc"
	"spandrel/stream"
)

// leaves are a type of each Kind that Leaf reads, with Ext and without it, a value,
// and its digits in both variants.
func leaves() map[string]row {
	return map[string]row{
		"BOOLEAN":                         same(boolean(1), "1"),
		"INTEGER":                         aligning(integer(-1), "- 00000001 11111111"),
		"INTEGER (0..7)":                  same(integer(5), "101"),
		"INTEGER (0..255)":                aligning(integer(5), "- 00000101"),
		"INTEGER (1..MAX, ...)":           aligning(integer(0), "1 - 00000001 00000000"),
		"ENUMERATED { a, b, c }":          same(item("c"), "10"),
		"ENUMERATED { a, ..., b, c }":     same(item("c"), "1 0 000001"),
		"NULL":                            same(null(), ""),
		"BIT STRING":                      aligning(bits("10"), "- 00000010 10"),
		"BIT STRING (SIZE (1..2, ...))":   aligning(bits("10"), "0 1 - 10"),
		"OCTET STRING (SIZE (2))":         same(octets("\x07\x08"), "00000111 00001000"),
		"OCTET STRING (SIZE (0..1, ...))": aligning(octets("\x07\x08"), "1 - 00000010 00000111 00001000"),
		"IA5String (SIZE (0..2))":         apart(str("a"), "01 1100001", "01 - 01100001"),
		`IA5String (FROM ("ab")) (SIZE (0..3, ...))`: same(str("b"), "0 01 1"),
	}
}

// readerOf is a Reader of digits, of which so many have been read.
func readerOf(t *testing.T, text string, bits int) *stream.Reader {
	t.Helper()
	r := stream.New(packOf(text))
	if _, e := r.Get(bits); e != api.OK {
		t.Fatal(e)
	}
	return r
}

// P17.3: what Leaf reads behind what was read already, and where it ends.
func TestLeaf(t *testing.T) {
	for text, x := range leaves() {
		r := rows(t, text)[0]
		for _, aligned := range variants {
			x := headed(x, "111", "")
			whole := x.digitsOf(aligned)
			reader := readerOf(t, whole+"01", 3)
			v, e := dec.Leaf(reader, aligned, r)
			if e != api.OK || told(v) != told(x.value) || reader.Pos() != len(whole) {
				t.Errorf("%s, aligned %v: %s, %d, %d bits, not %s, %d bits", text, aligned, shown(v), e, reader.Pos(), shown(x.value), len(whole))
			}
			// What follows is there to be read.
			if rest, e := reader.Get(2); e != api.OK || rest != 1 {
				t.Error(text, aligned, rest, e)
			}
		}
		decoded(t, rows(t, text), x)
	}
}

// P17.3: values that are read one behind the other, as they were written.
func TestLeaves(t *testing.T) {
	for _, aligned := range variants {
		var w stream.Writer
		for range 10 {
			for _, x := range samples() {
				d := rows(t, x.text)
				for _, v := range x.values {
					if d[0].Kind < api.Seq && enc.Leaf(&w, aligned, d[0], v) != api.OK {
						t.Fatal(x.text, shown(v))
					}
				}
			}
		}
		r := stream.New(w.Bytes())
		for range 10 {
			for _, x := range samples() {
				d := rows(t, x.text)
				for _, v := range x.values {
					if d[0].Kind >= api.Seq {
						continue
					}
					if got, e := dec.Leaf(r, aligned, d[0]); e != api.OK || told(got) != told(v) {
						t.Fatal(x.text, aligned, shown(got), e, shown(v))
					}
				}
			}
		}
		if r.Pos() != w.Len() || r.End() != api.OK {
			t.Error(aligned, r.Pos(), w.Len(), r.End())
		}
	}
}

// leafFails holds the error of a leaf, in both variants, behind a bit.
func leafFails(t *testing.T, r api.Desc, text string, want api.Errno) {
	t.Helper()
	for _, aligned := range variants {
		reader := readerOf(t, filled(wrong(want, "1"+text).digitsOf(aligned)), 1)
		v, e := dec.Leaf(reader, aligned, r)
		if e != want || !isEmpty(v) {
			t.Errorf("%q by %s, aligned %v: %s, %d, not %d", text, shown(r), aligned, shown(v), e, want)
		}
		if want == api.ErrArg && reader.Pos() != 1 {
			t.Errorf("%q by %s, aligned %v: %d bits are read", text, shown(r), aligned, reader.Pos())
		}
		if v, e := dec.Leaf(nil, aligned, r); e != api.ErrArg || !isEmpty(v) {
			t.Errorf("%s, aligned %v, without a Reader: %s, %d", shown(r), aligned, shown(v), e)
		}
	}
}

// P17.3: the first error that occurs; there is no error of what is left.
func TestLeafErrors(t *testing.T) {
	for _, x := range faults() {
		if r := rows(t, x.text)[0]; r.Kind < api.Seq && x.e != api.ErrShort {
			leafFails(t, r, x.digits, x.e)
		}
	}
	for text := range leaves() {
		r := rows(t, text)[0]
		want := api.ErrShort
		if r.Kind == api.Null {
			want = api.OK
		}
		for _, aligned := range variants {
			for _, reader := range []*stream.Reader{{}, stream.New(nil), readerOf(t, ones, 8)} {
				if v, e := dec.Leaf(reader, aligned, r); e != want || want != api.OK && !isEmpty(v) {
					t.Error(text, aligned, shown(v), e)
				}
			}
		}
	}
	leafFails(t, rows(t, "IA5String")[0], "- 00000010 1100001", api.ErrShort)
}

// P17.3: the Kinds of a row that Leaf refuses.
func TestLeafKinds(t *testing.T) {
	for _, text := range []string{"SEQUENCE { }", "SEQUENCE { ... }", "A ::= SEQUENCE { a A OPTIONAL }", "SEQUENCE { a NULL OPTIONAL }", "SEQUENCE (SIZE (0)) OF NULL", "A ::= SEQUENCE OF A", "A ::= CHOICE { a NULL, b A }", "A ::= CHOICE { a A, b NULL }"} {
		leafFails(t, rows(t, text)[0], zeros+zeros, api.ErrArg)
	}
	// What would be valid rows by themselves, too.
	leafFails(t, api.Desc{Kind: api.Seq}, zeros, api.ErrArg)
	leafFails(t, api.Desc{Kind: api.SeqOf, Set: []api.Range{{}}}, zeros, api.ErrArg)
	leafFails(t, api.Desc{Kind: api.Choice, Parts: []api.Field{{Name: "a"}}, Order: []int{0}}, zeros, api.ErrArg)
}

// P17.3: rows that are not valid by themselves.
func TestLeafRows(t *testing.T) {
	one := []api.Range{{Lo: 0, Hi: 1}}
	for _, r := range []api.Desc{
		{}, {Kind: -1}, {Kind: api.Ref}, {Kind: 12}, {Kind: 1 << 62},
		{Kind: api.Bool, Ext: true}, {Kind: api.Null, Elem: 1}, {Kind: api.Null, From: "a"}, {Kind: api.Null, Names: []string{"a"}}, {Kind: api.Bool, Lo: 1},
		{Kind: api.Int}, {Kind: api.Int, Set: []api.Range{{Lo: 1, Hi: 0}}, Lo: 1}, {Kind: api.Int, Set: one, Hi: 8}, {Kind: api.Int, Set: []api.Range{{Lo: 0, Hi: 7}, {Lo: 8, Hi: 9}}, Hi: 9},
		{Kind: api.Enum}, {Kind: api.Enum, Names: []string{"a", "a"}}, {Kind: api.Enum, Names: []string{"a"}, More: []string{"b"}}, {Kind: api.Enum, Ext: true, Names: []string{"a"}, More: []string{"a"}}, {Kind: api.Enum, Ext: true, More: []string{"a"}},
		{Kind: api.Bits}, {Kind: api.Bits, Set: []api.Range{{Lo: -1, Hi: 1}}, Lo: -1, Hi: 1}, {Kind: api.Octets, Set: one, Hi: 1, From: "a"},
		{Kind: api.Str, Set: one, Hi: 1, From: "ba"}, {Kind: api.Str, Set: one, Hi: 1, From: "a\x80"},
		{Kind: api.Bool, Parts: []api.Field{{Name: "a"}}}, {Kind: api.Bool, Adds: []api.Field{{Name: "a"}}}, {Kind: api.Bool, Order: []int{0}},
	} {
		leafFails(t, r, zeros+zeros, api.ErrArg)
		leafFails(t, r, strings.Repeat(ones, 10), api.ErrArg)
	}
}

// P17.3: long strings, behind bits that do not fill an octet.
func TestLongLeaf(t *testing.T) {
	for kind, text := range kinds() {
		r := rows(t, text)[0]
		x := headed(long(kind, 16385), "", "")
		for _, aligned := range variants {
			s := x.digitsOf(aligned)
			first := len(s) / 16385 * 16384
			whole := spelled("111 11000001" + s[:first] + "00000001" + s[first:])
			if aligned {
				whole = spelled("111 - 11000001" + s[:first] + "00000001" + s[first:])
			}
			reader := readerOf(t, whole, 3)
			if v, e := dec.Leaf(reader, aligned, r); e != api.OK || told(v) != told(x.value) || reader.Pos() != len(whole) {
				t.Error(text, aligned, shown(v), e, reader.Pos(), len(whole))
			}
		}
	}
}

// R3: the row is not changed, and nothing of it is kept.
func TestLeafKeepsNothing(t *testing.T) {
	r := api.Desc{Kind: api.Enum, Ext: true, Names: []string{"a", "b"}, More: []string{"c"}}
	given := guarded(r)
	for _, aligned := range variants {
		v, e := dec.Leaf(readerOf(t, "10110000", 1), aligned, given)
		if e != api.OK || told(v) != told(item("b")) {
			t.Error(shown(v), e)
		}
	}
	if names := given.Names[:3]; !slices.Equal(names, []string{"a", "b", "mark"}) {
		t.Error(names)
	}
	v, e := dec.Leaf(readerOf(t, "10110000", 1), true, given)
	given.Names[1] = "x"
	if e != api.OK || v.S != "b" {
		t.Error(shown(v), e)
	}
}
