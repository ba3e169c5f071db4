package dec_test

import (
	"slices"
	"testing"

	"spandrel/api"
)

// P17.1: Choice with alternatives of Parts.
func TestChoice(t *testing.T) {
	d := rows(t, "CHOICE { a NULL, b BOOLEAN }")
	decoded(t, d, same(alternative("a", null()), "0"), same(alternative("b", boolean(1)), "1 1"), same(alternative("b", boolean(0)), "1 0"), wrong(api.ErrForm, "0 1"))
	octetsAre(t, d, api.ErrShort, api.Value{})
	decoded(t, rows(t, "CHOICE { a BOOLEAN }"), same(alternative("a", boolean(1)), "1"))
	decoded(t, rows(t, "CHOICE { a NULL }"), same(alternative("a", null()), ""))
	d = rows(t, "CHOICE { a INTEGER, b NULL, c INTEGER (0..255) }")
	decoded(t, d, aligning(alternative("a", integer(3)), "00 - 00000001 00000011"), same(alternative("b", null()), "01"), aligning(alternative("c", integer(3)), "10 - 00000011"), wrong(api.ErrConstraint, "11"))
	// Alternatives of alternatives, and of a list.
	d = rows(t, "A ::= CHOICE { a A, b SEQUENCE OF A, c NULL }")
	decoded(t, d, same(alternative("a", alternative("a", alternative("c", null()))), "00 00 10"),
		aligning(alternative("b", list(alternative("c", null()), alternative("b", list()))), "01 - 00000010 10 01 - 00000000"), wrong(api.ErrConstraint, "00 00 11"))
}

// P17.1: Choice whose Order is not the order in which its Parts stand.
func TestChoiceOrder(t *testing.T) {
	d := untagged(t, "CHOICE { a NULL, b BOOLEAN }")
	decoded(t, d, same(alternative("a", null()), "1"), same(alternative("b", boolean(1)), "0 1"))
	// No Order that is its own other way round: what stands at the place counts.
	d = untagged(t, "CHOICE { a NULL, b BOOLEAN, c INTEGER (0..3), ..., d SEQUENCE { }, e OCTET STRING (SIZE (1)) }")
	if !slices.Equal(d[0].Order, []int{1, 2, 0}) {
		t.Fatal(d[0].Order)
	}
	decoded(t, d, same(alternative("a", null()), "0 10"), same(alternative("b", boolean(1)), "0 00 1"), same(alternative("c", integer(3)), "0 01 11"), wrong(api.ErrConstraint, "0 11"),
		aligning(alternative("d", seq("")), "1 0 000000 - 00000001 00000000"), aligning(alternative("e", octets("\xff")), "1 0 000001 - 00000001 11111111"))
	d = rows(t, "CHOICE { "+numbered("n", 255, " BOOLEAN")+" }")
	slices.Reverse(d[0].Order)
	decoded(t, d, same(alternative("n0", boolean(1)), "11111110 1"), same(alternative("n254", boolean(1)), "00000000 1"), same(alternative("n1", boolean(0)), "11111101 0"), wrong(api.ErrConstraint, "11111111 0"))
}

// P17.1: Choice with Ext: after a bit 1, the last index of Adds and the next one.
func TestChoiceExt(t *testing.T) {
	d := rows(t, "CHOICE { a NULL, ... }")
	decoded(t, d, same(alternative("a", null()), "0"), wrong(api.ErrUnknown, "1 0 000000 - 00000000"), wrong(api.ErrUnknown, "1 0 000000 - 00000001 11111111"), wrong(api.ErrShort, "1 0 000000 - 00000010 11111111"))
	octetsAre(t, d, api.ErrShort, api.Value{}, 128)
	octetsAre(t, d, api.ErrShort, api.Value{})
	d = rows(t, "CHOICE { a NULL, b BOOLEAN, ..., c BOOLEAN, d NULL, e INTEGER }")
	decoded(t, d, same(alternative("a", null()), "0 0"), same(alternative("b", boolean(1)), "0 1 1"),
		aligning(alternative("c", boolean(1)), "1 0 000000 - 00000001 10000000"), aligning(alternative("d", null()), "1 0 000001 - 00000001 00000000"),
		aligning(alternative("e", integer(-1)), "1 0 000010 - 00000010 00000001 11111111"),
		wrong(api.ErrUnknown, "1 0 000011 - 00000001 00000000"), wrong(api.ErrUnknown, "1 0 111111 - 00000000"), wrong(api.ErrUnknown, "1 1 - 00000001 01000000 - 00000001 00000000"), wrong(api.ErrUnknown, "1 1 - 00001000 01111111"+sevens(ones)+"00000000"))
	// The errors of the number, and then of the octets, come ahead of ErrUnknown.
	decoded(t, d, wrong(api.ErrForm, "1 1 - 00000001 00000011 - 00000001 00000000"), wrong(api.ErrLarge, "1 1 - 00001000 10000000"+sevens(zeros)), wrong(api.ErrForm, "1 0 000011 - 11000000"), wrong(api.ErrForm, "1 0 000011 - 10000000 00000001 00000000"), wrong(api.ErrShort, "1 0 000011 - 00000001"))
	// ErrUnknown comes ahead of what follows.
	d = rows(t, "SEQUENCE { a CHOICE { b NULL, ... }, c INTEGER (0..2) }")
	decoded(t, d, same(seq("a c", alternative("b", null()), integer(2)), "0 10"), wrong(api.ErrUnknown, "1 0 000000 - 00000000 11"), wrong(api.ErrConstraint, "0 11"))
	// An addition is aligned, within and without, where its stream begins.
	d = rows(t, "SEQUENCE OF CHOICE { a BOOLEAN, ..., b SEQUENCE { p0 BOOLEAN, p1 INTEGER (0..255) } }")
	within := alternative("b", all(boolean(1), integer(5)))
	decoded(t, d, apart(list(alternative("a", boolean(1)), within, alternative("a", boolean(1)), within),
		"00000100 0 1 1 0 000000 00000010 10000010 10000000 0 1 1 0 000000 00000010 10000010 10000000",
		"00000100 0 1 1 0 000000 - 00000010 10000000 00000101 0 1 1 0 000000 - 00000010 10000000 00000101"))
	// Additions of additions.
	d = rows(t, "A ::= CHOICE { a NULL, ..., b A }")
	decoded(t, d, aligning(alternative("b", alternative("b", alternative("a", null()))), "1 0 000000 - 00000011 10000000 00000001 00000000"), wrong(api.ErrUnknown, "1 0 000000 - 00000011 10000001 00000001 00000000"))
}

// separates are digits of a separate encoding of SEQUENCE { a INTEGER (0..100), b BOOLEAN },
// with the number of its octets ahead of them, and the error that they are.
func separates() []row {
	right := seq("a b", integer(5), boolean(1))
	return []row{
		same(right, "00000001 0000101 1"),
		wrong(api.ErrShort, "00000000"),
		wrong(api.ErrForm, "00000010 0000101 1 00000000"), wrong(api.ErrForm, "00000010 0000101 1 10000000"),
		wrong(api.ErrConstraint, "00000001 1111111 1"), wrong(api.ErrConstraint, "00000010 1111111 1 00000000"),
		wrong(api.ErrForm, "10000000 00000001 0000101 1"), wrong(api.ErrForm, "11000101"),
	}
}

// P17.1: separate encodings that are cut off, have bits more, or padding that is not
// zero, as alternatives and as parts.
func TestSeparate(t *testing.T) {
	choice := rows(t, "CHOICE { x NULL, ..., y SEQUENCE { a INTEGER (0..100), b BOOLEAN } }")
	parts := rows(t, "SEQUENCE { ..., y SEQUENCE { a INTEGER (0..100), b BOOLEAN } }")
	for _, x := range separates() {
		x := headed(x, "1 0 000000 -", "")
		if x.fault == api.OK {
			x.value = alternative("y", x.value)
		}
		decoded(t, choice, x)
	}
	for _, x := range separates() {
		x := headed(x, "1 0 000000 1 -", "")
		if x.fault == api.OK {
			x.value = seq("y", x.value)
		}
		decoded(t, parts, x)
	}
	// With a value of 5 bits.
	choice, parts = rows(t, "CHOICE { x NULL, ..., y INTEGER (0..20) }"), rows(t, "SEQUENCE { ..., y INTEGER (0..20) }")
	for octet, e := range map[string]api.Errno{"00101 000": api.OK, "00101 001": api.ErrForm, "00101 100": api.ErrForm, "10101 000": api.ErrConstraint, "10101 001": api.ErrConstraint} {
		one, other := aligning(alternative("y", integer(5)), "1 0 000000 - 00000001"+octet), aligning(seq("y", integer(5)), "1 0 000000 1 - 00000001"+octet)
		if e != api.OK {
			one, other = refused(one, e), refused(other, e)
		}
		decoded(t, choice, one)
		decoded(t, parts, other)
	}
	// Of no bits at all, a separate encoding is a single octet, which is zero.
	choice, parts = rows(t, "CHOICE { x BOOLEAN, ..., y NULL }"), rows(t, "SEQUENCE { ..., y NULL }")
	decoded(t, choice, aligning(alternative("y", null()), "1 0 000000 - 00000001 00000000"), wrong(api.ErrForm, "1 0 000000 - 00000000"), wrong(api.ErrForm, "1 0 000000 - 00000001 00000001"), wrong(api.ErrForm, "1 0 000000 - 00000001 10000000"), wrong(api.ErrForm, "1 0 000000 - 00000010 00000000 00000000"))
	decoded(t, parts, aligning(seq("y", null()), "1 0 000000 1 - 00000001 00000000"), wrong(api.ErrForm, "1 0 000000 1 - 00000000"), wrong(api.ErrForm, "1 0 000000 1 - 00000001 00000001"), wrong(api.ErrForm, "1 0 000000 1 - 00000010 00000000 00000000"))
}

// P17.1: Choice with many alternatives.
func TestChoiceMany(t *testing.T) {
	d := rows(t, "CHOICE { a NULL, ..., "+numbered("m", 256, " NULL")+" }")
	behind := " - 00000001 00000000"
	decoded(t, d, same(alternative("a", null()), "0"),
		aligning(alternative("m0", null()), "1 0 000000"+behind), aligning(alternative("m63", null()), "1 0 111111"+behind),
		aligning(alternative("m64", null()), "1 1 - 00000001 01000000"+behind), aligning(alternative("m255", null()), "1 1 - 00000001 11111111"+behind), wrong(api.ErrUnknown, "1 1 - 00000010 00000001 00000000"+behind), wrong(api.ErrForm, "1 1 - 00000001 00111111"+behind))
	d = rows(t, "CHOICE { "+numbered("n", 256, " BOOLEAN")+", ..., m NULL }")
	decoded(t, d, aligning(alternative("n3", boolean(1)), "0 - 00000011 1"), aligning(alternative("n255", boolean(0)), "0 - 11111111 0"), aligning(alternative("m", null()), "1 0 000000 - "+"00000001 00000000"))
}
