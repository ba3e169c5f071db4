package dec_test

import (
	"strings"
	"testing"

	"spandrel/api"
)

// P17.1: Seq with parts that are required, or Opt: none of these, one, and all.
func TestParts(t *testing.T) {
	decoded(t, rows(t, "SEQUENCE { }"), same(seq(""), ""), wrong(api.ErrForm, "1"))
	decoded(t, rows(t, "SEQUENCE { a NULL }"), same(seq("a", null()), ""))
	decoded(t, rows(t, "SEQUENCE { b INTEGER (0..6), a BOOLEAN }"), same(seq("b a", integer(5), boolean(1)), "101 1"), wrong(api.ErrConstraint, "111 1"), wrong(api.ErrForm, "101 11"))
	d := rows(t, "SEQUENCE { a BOOLEAN OPTIONAL, b NULL, c INTEGER (0..7) OPTIONAL, d BOOLEAN, e SEQUENCE OF NULL OPTIONAL }")
	decoded(t, d, same(seq("b d", null(), boolean(1)), "000 1"), same(seq("a b d", boolean(0), null(), boolean(1)), "100 0 1"),
		same(seq("b c d", null(), integer(6), boolean(0)), "010 110 0"), aligning(seq("b d e", null(), boolean(1), list()), "001 1 - 00000000"),
		aligning(seq("a b c d e", boolean(1), null(), integer(1), boolean(1), list(null())), "111 1 001 1 - 00000001"))
	octetsAre(t, d, api.ErrShort, api.Value{})
	octetsAre(t, d, api.ErrShort, api.Value{}, 0b00110000)
	d = rows(t, "SEQUENCE { a NULL OPTIONAL, b NULL OPTIONAL }")
	decoded(t, d, same(seq(""), "00"), same(seq("a", null()), "10"), same(seq("b", null()), "01"), same(seq("a b", null(), null()), "11"))
	// The bits of a Seq within are ahead of its own parts.
	d = rows(t, "SEQUENCE { a BOOLEAN OPTIONAL, b SEQUENCE { c NULL OPTIONAL, d BOOLEAN OPTIONAL }, e BOOLEAN OPTIONAL }")
	decoded(t, d, same(seq("b e", seq("d", boolean(1)), boolean(0)), "01 01 1 0"), same(seq("a b", boolean(1), seq("c d", null(), boolean(0))), "10 1 11 0"))
}

// P17.1: Seq with parts that have a Def, of each Kind: not told, told, and told and
// the same.
func TestDefaults(t *testing.T) {
	decoded(t, rows(t, "SEQUENCE { a BOOLEAN DEFAULT TRUE, b NULL }"), same(seq("a b", boolean(1), null()), "0"), same(seq("a b", boolean(0), null()), "1 0"), wrong(api.ErrForm, "1 1"))
	decoded(t, rows(t, "SEQUENCE { a BOOLEAN DEFAULT FALSE }"), same(seq("a", boolean(0)), "0"), same(seq("a", boolean(1)), "1 1"), wrong(api.ErrForm, "1 0"))
	decoded(t, rows(t, "SEQUENCE { a INTEGER (0..6) DEFAULT 5 }"), same(seq("a", integer(5)), "0"), same(seq("a", integer(0)), "1 000"), wrong(api.ErrForm, "1 101"), wrong(api.ErrConstraint, "1 111"))
	decoded(t, rows(t, "SEQUENCE { a INTEGER DEFAULT 0 }"), same(seq("a", integer(0)), "0"), aligning(seq("a", integer(1)), "1 - 00000001 00000001"), wrong(api.ErrForm, "1 - 00000001 00000000"))
	decoded(t, rows(t, "SEQUENCE { a INTEGER (0..3, ...) DEFAULT 9 }"), same(seq("a", integer(9)), "0"), same(seq("a", integer(1)), "1 0 01"), wrong(api.ErrForm, "1 1 - 00000001 00001001"))
	decoded(t, rows(t, "SEQUENCE { a ENUMERATED { x, y } DEFAULT y }"), same(seq("a", item("y")), "0"), same(seq("a", item("x")), "1 0"), wrong(api.ErrForm, "1 1"))
	decoded(t, rows(t, "SEQUENCE { a ENUMERATED { x, ..., y, z } DEFAULT z }"), same(seq("a", item("z")), "0"), same(seq("a", item("y")), "1 1 0 000000"), wrong(api.ErrForm, "1 1 0 000001"), wrong(api.ErrUnknown, "1 1 0 000010"))
	decoded(t, rows(t, `SEQUENCE { a IA5String (FROM ("ab")) (SIZE (0..3)) DEFAULT "ab" }`), same(seq("a", str("ab")), "0"), same(seq("a", str("ba")), "1 10 10"), same(seq("a", str("")), "1 00"), same(seq("a", str("a")), "1 01 0"), wrong(api.ErrForm, "1 10 01"))
	decoded(t, rows(t, `SEQUENCE { a IA5String DEFAULT "" }`), same(seq("a", str("")), "0"), apart(seq("a", str("a")), "1 00000001 1100001", "1 - 00000001 01100001"), wrong(api.ErrForm, "1 - 00000000"))
	// Lists without elements are the same, be they nil or not.
	d := rows(t, "SEQUENCE { a BOOLEAN DEFAULT TRUE }")
	d[0].Parts[0].Def = []api.Value{{Kind: api.Bool, N: 1, Names: []string{}, L: []api.Value{}}}
	decoded(t, d, same(seq("a", boolean(1)), "0"), same(seq("a", boolean(0)), "1 0"), wrong(api.ErrForm, "1 1"))
	// Beside parts that are Opt, and required, and within others.
	d = rows(t, "A ::= SEQUENCE { a BOOLEAN DEFAULT TRUE, b NULL OPTIONAL, c INTEGER (0..3) DEFAULT 2, d BOOLEAN, e A OPTIONAL }")
	decoded(t, d, same(seq("a c d", boolean(1), integer(2), boolean(1)), "0000 1"),
		same(seq("a b c d", boolean(0), null(), integer(3), boolean(1)), "1110 0 11 1"), same(seq("a c d e", boolean(1), integer(2), boolean(0), seq("a c d", boolean(0), integer(0), boolean(1))), "0001 0 1010 0 00 1"),
		wrong(api.ErrForm, "1000 1 1"), wrong(api.ErrForm, "0010 10 1"), wrong(api.ErrForm, "0001 0 1000 1 1"))
	// After it has been read, and ahead of the next part.
	d = rows(t, "SEQUENCE { a INTEGER (0..6) DEFAULT 5, b INTEGER (0..6) }")
	decoded(t, d, wrong(api.ErrForm, "1 101 111"), wrong(api.ErrConstraint, "1 111 111"), wrong(api.ErrConstraint, "1 100 111"), same(seq("a b", integer(4), integer(6)), "1 100 110"))
	d = rows(t, "SEQUENCE { a INTEGER (0..127) DEFAULT 5, b BOOLEAN }")
	octetsAre(t, d, api.ErrForm, api.Value{}, 0b10000101)
	octetsAre(t, d, api.ErrShort, api.Value{}, 0b10000100)
	// Within lists, alternatives and additions, defaults are there, too.
	d = rows(t, "SEQUENCE OF CHOICE { x SEQUENCE { a BOOLEAN DEFAULT TRUE }, ..., y SEQUENCE { b INTEGER DEFAULT 7, ..., c BOOLEAN DEFAULT FALSE } }")
	decoded(t, d, aligning(list(alternative("x", seq("a", boolean(1))), alternative("y", seq("b c", integer(7), boolean(0))), alternative("x", seq("a", boolean(0)))), "00000011 0 0 1 0 000000 - 00000001 00000000 0 1 0"))
}

// P17.1: Seq with as many parts as there may be.
func TestPartsMany(t *testing.T) {
	d := rows(t, "SEQUENCE { "+numbered("n", 256, " BOOLEAN OPTIONAL")+" }")
	decoded(t, d, same(seq(""), strings.Repeat("0", 256)), same(seq("n7", boolean(1)), "0000000 1"+strings.Repeat("0", 248)+"1"), same(seq("n255", boolean(0)), strings.Repeat("0", 255)+"1 0"),
		same(seq("n0 n100 n255", boolean(0), boolean(1), boolean(0)), "1"+strings.Repeat("0", 99)+"1"+strings.Repeat("0", 154)+"1 010"), wrong(api.ErrShort, strings.Repeat("0", 248)))
}
