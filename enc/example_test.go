package enc_test

import (
	"bytes"
	"slices"
	"strings"
	"testing"

	"spandrel/api"
	"spandrel/enc"
)

// octetsOf holds the octets of a value in one of the variants.
func octetsOf(t *testing.T, d []api.Desc, aligned bool, v api.Value, want ...byte) {
	t.Helper()
	if b, e := enc.Encode(d, aligned, v); e != api.OK || !bytes.Equal(b, want) {
		t.Errorf("%s of %s, aligned %v: %v, %d, not %v", shown(v), shown(d), aligned, b, e, want)
	}
	hold(t, d, v)
}

// P16.1: the chapter's examples, and those of the document.
func TestExamples(t *testing.T) {
	for _, aligned := range variants {
		octetsOf(t, rows(t, "INTEGER (0..7)"), aligned, integer(5), 160)
		octetsOf(t, rows(t, "INTEGER"), aligned, integer(-1), 1, 255)
		d := rows(t, "SEQUENCE { a BOOLEAN OPTIONAL, b NULL }")
		octetsOf(t, d, aligned, seq("a b", boolean(1), null()), 192)
		octetsOf(t, d, aligned, seq("b", null()), 0)
		octetsOf(t, rows(t, "ENUMERATED { a, b, c }"), aligned, item("c"), 128)
		octetsOf(t, rows(t, "ENUMERATED { a, ..., b, c }"), aligned, item("c"), 129)
		d = untagged(t, "CHOICE { a NULL, b BOOLEAN }")
		octetsOf(t, d, aligned, alternative("b", boolean(1)), 64)
		octetsOf(t, d, aligned, alternative("b", boolean(0)), 0)
		octetsOf(t, d, aligned, alternative("a", null()), 128)
	}
	d := rows(t, "INTEGER (0..7, ...)")
	octetsOf(t, d, true, integer(9), 128, 1, 9)
	octetsOf(t, d, false, integer(9), 128, 128|4, 128)
	octetsOf(t, rows(t, "SEQUENCE OF BOOLEAN"), false, list(boolean(1), boolean(0)), 2, 128)
	// Nested 40 deep, and 41 deep.
	d = rows(t, "A ::= SEQUENCE { a A OPTIONAL }")
	v := seq("")
	for range 39 {
		v = seq("a", v)
	}
	for _, aligned := range variants {
		octetsOf(t, d, aligned, v, 255, 255, 255, 255, 254)
	}
	fails(t, d, api.ErrDeep, seq("a", v))
}

// P16.1: Bool, and Null.
func TestBool(t *testing.T) {
	d := rows(t, "BOOLEAN")
	encoded(t, d, same(boolean(0), "0"), same(boolean(1), "1"))
	fails(t, d, api.ErrConstraint, boolean(2), boolean(-1), null(), integer(1), api.Value{})
	d = rows(t, "NULL")
	encoded(t, d, same(null(), ""))
	fails(t, d, api.ErrConstraint, boolean(0), api.Value{Kind: api.Null, N: 1})
	// Nothing is ahead of either, be what there is as it may.
	d = rows(t, "SEQUENCE { a NULL, b BOOLEAN, c NULL, d BOOLEAN }")
	encoded(t, d, same(seq("a b c d", null(), boolean(0), null(), boolean(1)), "01"))
}

// P16.1: Enum, with names of Names and of More.
func TestEnum(t *testing.T) {
	d := rows(t, "ENUMERATED { c, a, b }")
	encoded(t, d, same(item("c"), "00"), same(item("a"), "01"), same(item("b"), "10"))
	fails(t, d, api.ErrConstraint, item("d"), item(""), str("a"), item("A"))
	encoded(t, rows(t, "ENUMERATED { a }"), same(item("a"), ""))
	d = rows(t, "ENUMERATED { a, ... }")
	encoded(t, d, same(item("a"), "0"))
	fails(t, d, api.ErrConstraint, item("b"))
	d = rows(t, "ENUMERATED { b, a, ..., c }")
	encoded(t, d, same(item("b"), "00"), same(item("a"), "01"), same(item("c"), "1 0 000000"))
	encoded(t, rows(t, "ENUMERATED { a, ..., c, b }"), same(item("a"), "0"), same(item("c"), "1 0 000000"), same(item("b"), "1 0 000001"))
	d = rows(t, "ENUMERATED { a, ..., "+numbered("m", 256, "")+" }")
	encoded(t, d, same(item("a"), "0"),
		same(item("m0"), "1 0 000000"), same(item("m62"), "1 0 111110"), same(item("m63"), "1 0 111111"),
		aligning(item("m64"), "1 1 - 00000001 01000000"), aligning(item("m65"), "1 1 - 00000001 01000001"),
		aligning(item("m128"), "1 1 - 00000001 10000000"), aligning(item("m255"), "1 1 - 00000001 11111111"))
	fails(t, d, api.ErrConstraint, item("m256"), item("m"))
	// 255 names are one bit short of an octet of their own.
	d = rows(t, "ENUMERATED { "+numbered("n", 255, "")+", ... }")
	encoded(t, d, same(item("n0"), "0 00000000"), same(item("n254"), "0 11111110"))
	d = rows(t, "ENUMERATED { "+numbered("n", 256, "")+", ..., m }")
	encoded(t, d, aligning(item("n0"), "0 - 00000000"), aligning(item("n255"), "0 - 11111111"), same(item("m"), "1 0 000000"))
	d = rows(t, "ENUMERATED { "+numbered("n", 256, "")+" }")
	encoded(t, d, same(item("n3"), "00000011"), same(item("n255"), "11111111"))
	// A table's names may be any strings.
	d = []api.Desc{{Kind: api.Enum, Ext: true, Names: []string{"\xff", ""}, More: []string{"A B"}}}
	encoded(t, d, same(item("\xff"), "0 0"), same(item(""), "0 1"), same(item("A B"), "1 0 000000"))
}

// all are values one behind the other in a Seq of so many parts, with the names
// p0, p1, and so on.
func all(l ...api.Value) api.Value {
	return api.Value{Kind: api.Seq, Names: strings.Split(numbered("p", len(l), ""), ", "), L: slices.Clone(l)}
}
