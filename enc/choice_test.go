package enc_test

import (
	"slices"
	"testing"

	"spandrel/api"
)

// P16.1: Choice with alternatives of Parts.
func TestChoice(t *testing.T) {
	encoded(t, rows(t, "CHOICE { a NULL, b BOOLEAN }"), same(alternative("a", null()), "0"), same(alternative("b", boolean(1)), "1 1"), same(alternative("b", boolean(0)), "1 0"))
	encoded(t, rows(t, "CHOICE { a BOOLEAN }"), same(alternative("a", boolean(1)), "1"))
	encoded(t, rows(t, "CHOICE { a NULL }"), same(alternative("a", null()), ""))
	d := rows(t, "CHOICE { a INTEGER, b NULL, c INTEGER (0..255) }")
	encoded(t, d, aligning(alternative("a", integer(3)), "00 - 00000001 00000011"), same(alternative("b", null()), "01"), aligning(alternative("c", integer(3)), "10 - 00000011"))
	fails(t, d, api.ErrConstraint, alternative("d", null()), alternative("a", null()), alternative("a"), alternative("a", integer(1), integer(1)), alternative("", null()), seq("a", integer(3)), alternative("c", integer(256)))
	// Alternatives of alternatives, and of a list.
	d = rows(t, "A ::= CHOICE { a A, b SEQUENCE OF A, c NULL }")
	encoded(t, d, same(alternative("a", alternative("a", alternative("c", null()))), "00 00 10"),
		aligning(alternative("b", list(alternative("c", null()), alternative("b", list()))), "01 - 00000010 10 01 - 00000000"))
}

// P16.1: Choice whose Order is not the order in which its Parts stand.
func TestChoiceOrder(t *testing.T) {
	d := untagged(t, "CHOICE { a NULL, b BOOLEAN }")
	encoded(t, d, same(alternative("a", null()), "1"), same(alternative("b", boolean(1)), "0 1"))
	d = untagged(t, "CHOICE { a SEQUENCE { }, b NULL, c OCTET STRING (SIZE (1)), d INTEGER (0..3), e BOOLEAN }")
	if !slices.Equal(d[0].Order, []int{4, 3, 2, 1, 0}) {
		t.Fatal(d[0].Order)
	}
	encoded(t, d, same(alternative("a", seq("")), "100"), same(alternative("b", null()), "011"), same(alternative("c", octets("\xff")), "010 11111111"), same(alternative("d", integer(3)), "001 11"), same(alternative("e", boolean(1)), "000 1"))
	// No Order that is its own other way round: the place in Order counts, not
	// what stands there.
	d = untagged(t, "CHOICE { a NULL, b BOOLEAN, c INTEGER (0..3) }")
	if !slices.Equal(d[0].Order, []int{1, 2, 0}) {
		t.Fatal(d[0].Order)
	}
	encoded(t, d, same(alternative("a", null()), "10"), same(alternative("b", boolean(1)), "00 1"), same(alternative("c", integer(3)), "01 11"))
	d = untagged(t, "CHOICE { a NULL, b BOOLEAN, c INTEGER (0..3), ..., d SEQUENCE { }, e OCTET STRING (SIZE (1)) }")
	encoded(t, d, same(alternative("a", null()), "0 10"), same(alternative("b", boolean(1)), "0 00 1"), same(alternative("c", integer(3)), "0 01 11"),
		same(alternative("d", seq("")), "1 0 000000 00000001 00000000"), same(alternative("e", octets("\xff")), "1 0 000001 00000001 11111111"))
}

// P16.1: Choice with Ext, and with alternatives of Adds.
func TestChoiceExt(t *testing.T) {
	d := rows(t, "CHOICE { a NULL, ... }")
	encoded(t, d, same(alternative("a", null()), "0"))
	fails(t, d, api.ErrConstraint, alternative("b", null()))
	d = rows(t, "CHOICE { a NULL, b BOOLEAN, ..., c BOOLEAN, d NULL, e INTEGER }")
	encoded(t, d, same(alternative("a", null()), "0 0"), same(alternative("b", boolean(1)), "0 1 1"),
		same(alternative("c", boolean(1)), "1 0 000000 00000001 10000000"), same(alternative("d", null()), "1 0 000001 00000001 00000000"),
		same(alternative("e", integer(-1)), "1 0 000010 00000010 00000001 11111111"))
	fails(t, d, api.ErrConstraint, alternative("c", null()), alternative("f", null()), alternative("c"), alternative("d", null(), null()))
	// An addition is aligned, within and without, where its stream begins.
	d = rows(t, "SEQUENCE OF CHOICE { a BOOLEAN, ..., b SEQUENCE { p0 BOOLEAN, p1 INTEGER (0..255) } }")
	within := alternative("b", all(boolean(1), integer(5)))
	encoded(t, d, row{list(alternative("a", boolean(1)), within, alternative("a", boolean(1)), within),
		"00000100 0 1 1 0 000000 00000010 10000010 10000000 0 1 1 0 000000 00000010 10000010 10000000",
		"00000100 0 1 1 0 000000 - 00000010 10000000 00000101 0 1 1 0 000000 - 00000010 10000000 00000101"})
	// Additions of additions.
	d = rows(t, "A ::= CHOICE { a NULL, ..., b A }")
	encoded(t, d, same(alternative("b", alternative("b", alternative("a", null()))), "1 0 000000 00000011 10000000 00000001 00000000"))
}

// P16.1: Choice with many alternatives.
func TestChoiceMany(t *testing.T) {
	d := rows(t, "CHOICE { a NULL, ..., "+numbered("m", 256, " NULL")+" }")
	behind := " - 00000001 00000000"
	encoded(t, d, same(alternative("a", null()), "0"),
		aligning(alternative("m0", null()), "1 0 000000"+behind), aligning(alternative("m63", null()), "1 0 111111"+behind),
		aligning(alternative("m64", null()), "1 1 - 00000001 01000000"+behind), aligning(alternative("m65", null()), "1 1 - 00000001 01000001"+behind),
		aligning(alternative("m255", null()), "1 1 - 00000001 11111111"+behind))
	d = rows(t, "CHOICE { "+numbered("n", 256, " BOOLEAN")+", ..., m NULL }")
	encoded(t, d, aligning(alternative("n3", boolean(1)), "0 - 00000011 1"), aligning(alternative("n255", boolean(0)), "0 - 11111111 0"), same(alternative("m", null()), "1 0 000000"+"00000001 00000000"))
	d = rows(t, "CHOICE { "+numbered("n", 255, " BOOLEAN")+" }")
	slices.Reverse(d[0].Order)
	encoded(t, d, same(alternative("n0", boolean(1)), "11111110 1"), same(alternative("n254", boolean(1)), "00000000 1"), same(alternative("n1", boolean(0)), "11111101 0"))
}
