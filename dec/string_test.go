package dec_test

import (
	"strings"
	"testing"

	"spandrel/api"
)

// P17.1: Bits.
func TestBits(t *testing.T) {
	decoded(t, rows(t, "BIT STRING (SIZE (3))"), same(bits("101"), "101"), same(bits("000"), "000"), wrong(api.ErrForm, "101 00001"))
	decoded(t, rows(t, "BIT STRING (SIZE (0))"), same(bits(""), ""))
	decoded(t, rows(t, "BIT STRING (SIZE (0..7))"), aligning(bits("101"), "011 - 101"), same(bits(""), "000"), aligning(bits("1111111"), "111 - 1111111"))
	decoded(t, rows(t, "BIT STRING (SIZE (0..5))"), aligning(bits("10111"), "101 - 10111"), wrong(api.ErrConstraint, "110 - 101111"))
	decoded(t, rows(t, "BIT STRING"), same(bits(""), zeros), same(bits("101"), "00000011 101"), wrong(api.ErrShort, "00001001 10111111"))
	decoded(t, rows(t, "BIT STRING (SIZE (2..MAX))"), same(bits("01"), "00000010 01"), wrong(api.ErrConstraint, "00000001 1"), wrong(api.ErrConstraint, zeros))
	decoded(t, rows(t, "BIT STRING (SIZE (0..65536))"), same(bits("1"), "00000001 1"))
	decoded(t, rows(t, "BIT STRING (SIZE (0..65535))"), same(bits("1"), "00000000 00000001 1"))
	// After a bit 0, or without one, a size in a gap of the Set.
	decoded(t, rows(t, "BIT STRING (SIZE (0..1 | 4))"), aligning(bits("1"), "001 - 1"), aligning(bits("1010"), "100 - 1010"), wrong(api.ErrConstraint, "010 - 10"), wrong(api.ErrConstraint, "011 - 101"), wrong(api.ErrConstraint, "101 - 10101"))
	d := rows(t, "SEQUENCE { p0 BOOLEAN, p1 BIT STRING (SIZE (16)), p2 BOOLEAN, p3 BIT STRING (SIZE (17)), p4 BIT STRING }")
	decoded(t, d, aligning(all(boolean(1), bits("1111000011110000"), boolean(0), bits("11110000111100001"), bits("1")), "1 1111000011110000 0 - 11110000111100001 - 00000001 1"))
	// Ones where an Align reads zeros.
	d = rows(t, "SEQUENCE { p0 BOOLEAN, p1 BIT STRING (SIZE (17)) }")
	if v, e := hold(t, d, true, []byte{0b10100000, 1, 2, 128}); e != api.ErrForm {
		t.Error(shown(v), e)
	}
	d = rows(t, "BIT STRING (SIZE (0..7))")
	if v, e := hold(t, d, true, []byte{0b01100001, 0b10100000}); e != api.ErrForm {
		t.Error(shown(v), e)
	}
}

// P17.1: Bits with Ext: after a bit 1, a size in the Set, at both ends of it, and
// beside it.
func TestBitsExt(t *testing.T) {
	decoded(t, rows(t, "BIT STRING (SIZE (3, ...))"), same(bits("101"), "0 101"), aligning(bits("10"), "1 - 00000010 10"), aligning(bits("1010"), "1 - 00000100 1010"), aligning(bits(""), "1 - 00000000"), wrong(api.ErrForm, "1 - 00000011 101"))
	decoded(t, rows(t, "BIT STRING (SIZE (1..3, ...))"), aligning(bits("1"), "0 00 - 1"), aligning(bits("10"), "0 01 - 10"), aligning(bits(""), "1 - 00000000"), aligning(bits("1111"), "1 - 00000100 1111"),
		wrong(api.ErrForm, "1 - 00000001 1"), wrong(api.ErrForm, "1 - 00000010 11"), wrong(api.ErrForm, "1 - 00000011 111"), wrong(api.ErrConstraint, "0 11 - 1111"))
	decoded(t, rows(t, "BIT STRING (SIZE (0, ...))"), same(bits(""), "0"), aligning(bits("1"), "1 - 00000001 1"), wrong(api.ErrForm, "1 - 00000000"))
	decoded(t, rows(t, "BIT STRING (SIZE (0..1 | 4, ...))"), aligning(bits("1010"), "0 100 - 1010"), aligning(bits("101"), "1 - 00000011 101"), wrong(api.ErrConstraint, "0 010 - 10"), wrong(api.ErrForm, "1 - 00000100 1010"), wrong(api.ErrForm, "1 - 00000000"))
	decoded(t, rows(t, "BIT STRING (SIZE (2..MAX, ...))"), aligning(bits("10"), "0 - 00000010 10"), aligning(bits("1"), "1 - 00000001 1"), wrong(api.ErrConstraint, "0 - 00000001 1"), wrong(api.ErrForm, "1 - 00000010 10"))
}

// P17.1: Octets.
func TestOctets(t *testing.T) {
	decoded(t, rows(t, "OCTET STRING (SIZE (2))"), same(octets("\x07\x08"), "00000111 00001000"), same(octets("\x00\xff"), zeros+ones), wrong(api.ErrShort, "00000111"), wrong(api.ErrForm, zeros+zeros+zeros))
	decoded(t, rows(t, "OCTET STRING (SIZE (0))"), same(octets(""), ""))
	decoded(t, rows(t, "OCTET STRING (SIZE (0..3))"), same(octets(""), "00"), aligning(octets("\x07\x08"), "10 - 00000111 00001000"), wrong(api.ErrShort, "10 - 00000111"))
	decoded(t, rows(t, "OCTET STRING"), same(octets(""), zeros), same(octets("\x07\x08"), "00000010 00000111 00001000"), wrong(api.ErrForm, "10000000 00000000"), wrong(api.ErrForm, "11000000"), wrong(api.ErrForm, "11000101"), wrong(api.ErrShort, "00000010 00000111"))
	octetsAre(t, rows(t, "OCTET STRING"), api.ErrShort, api.Value{})
	decoded(t, rows(t, "OCTET STRING (SIZE (1..MAX))"), same(octets("\x07"), "00000001 00000111"), wrong(api.ErrConstraint, zeros))
	decoded(t, rows(t, "OCTET STRING (SIZE (1..65536))"), same(octets("\x07"), "00000001 00000111"), wrong(api.ErrConstraint, zeros))
	decoded(t, rows(t, "OCTET STRING (SIZE (1 | 3))"), aligning(octets("\x07"), "00 - 00000111"), wrong(api.ErrConstraint, "01 - 00000111 00000111"), aligning(octets("\x07\x07\x07"), "10 - 00000111 00000111 00000111"), wrong(api.ErrConstraint, "11 - 00000111 00000111 00000111 00000111"))
	d := rows(t, "SEQUENCE { p0 BOOLEAN, p1 OCTET STRING (SIZE (2)), p2 BOOLEAN, p3 OCTET STRING (SIZE (3)), p4 BOOLEAN }")
	decoded(t, d, aligning(all(boolean(1), octets("\x00\xff"), boolean(0), octets("\x00\xff\x00"), boolean(1)), "1 00000000 11111111 0 - 00000000 11111111 00000000 1"))
}

// P17.1: Octets with Ext, in its Set and beside it.
func TestOctetsExt(t *testing.T) {
	decoded(t, rows(t, "OCTET STRING (SIZE (2, ...))"), same(octets("\x07\x08"), "0 00000111 00001000"), aligning(octets("\x07"), "1 - 00000001 00000111"), aligning(octets("\x07\x08\x09"), "1 - 00000011 00000111 00001000 00001001"), wrong(api.ErrForm, "1 - 00000010 00000111 00001000"))
	decoded(t, rows(t, "OCTET STRING (SIZE (3, ...))"), aligning(octets("\x07\x08\x09"), "0 - 00000111 00001000 00001001"))
	decoded(t, rows(t, "OCTET STRING (SIZE (0..2, ...))"), same(octets(""), "0 00"), aligning(octets("\x07"), "0 01 - 00000111"), aligning(octets("\x00\x01\x02"), "1 - 00000011 00000000 00000001 00000010"),
		wrong(api.ErrForm, "1 - 00000000"), wrong(api.ErrForm, "1 - 00000001 00000000"), wrong(api.ErrForm, "1 - 00000010 00000000 00000000"), wrong(api.ErrConstraint, "0 11 - 00000000 00000000 00000000"))
	decoded(t, rows(t, "OCTET STRING (SIZE (1..MAX, ...))"), aligning(octets(""), "1 - 00000000"), aligning(octets("\x07"), "0 - 00000001 00000111"), wrong(api.ErrForm, "1 - 00000001 00000111"), wrong(api.ErrConstraint, "0 - 00000000"))
	// That units are missing is told ahead of a size that is not to be.
	decoded(t, rows(t, "OCTET STRING (SIZE (0..2, ...))"), wrong(api.ErrShort, "1 - 00000010 00000000"), wrong(api.ErrConstraint, "0 11 - 00000000 00000000"))
	decoded(t, rows(t, "OCTET STRING (SIZE (1 | 3))"), wrong(api.ErrShort, "01 - 00000111"))
}

// P17.1: Str, with From empty, and with an alphabet.
func TestStr(t *testing.T) {
	d := rows(t, "IA5String")
	decoded(t, d, same(str(""), zeros), apart(str("a"), "00000001 1100001", "00000001 01100001"), apart(str("\x00\x7f"), "00000010 0000000 1111111", "00000010 00000000 01111111"))
	// With eight bits, a character may be none.
	for _, c := range []byte{128, 255} {
		if v, e := hold(t, d, true, []byte{1, c}); e != api.ErrConstraint {
			t.Error(c, shown(v), e)
		}
	}
	decoded(t, rows(t, "IA5String (SIZE (2))"), apart(str("ab"), "1100001 1100010", "01100001 01100010"))
	decoded(t, rows(t, "IA5String (SIZE (0..1))"), apart(str("a"), "1 1100001", "1 01100001"), same(str(""), "0"))
	decoded(t, rows(t, "IA5String (SIZE (0..2))"), apart(str("a"), "01 1100001", "01 - 01100001"), same(str(""), "00"), wrong(api.ErrConstraint, "11 - 000000000000000000000000"))
	decoded(t, rows(t, "IA5String (SIZE (1..MAX))"), apart(str("a"), "00000001 1100001", "00000001 01100001"), wrong(api.ErrConstraint, zeros))
	decoded(t, rows(t, `IA5String (FROM ("a"))`), same(str("aaa"), "00000011"), same(str(""), zeros))
	decoded(t, rows(t, `IA5String (FROM ("a")) (SIZE (3))`), same(str("aaa"), ""))
	decoded(t, rows(t, `IA5String (FROM ("ab")) (SIZE (0..3))`), same(str("b"), "01 1"), same(str("aba"), "11 010"), wrong(api.ErrForm, "01 11"))
	decoded(t, rows(t, `IA5String (FROM ("ab")) (SIZE (0..16))`), aligning(str("ba"), "00010 - 10"), wrong(api.ErrConstraint, "10001 - 00000000000000000"))
	// Characters that are not in the alphabet.
	d = rows(t, `IA5String (FROM ("abc")) (SIZE (2))`)
	decoded(t, d, same(str("cb"), "10 01"), wrong(api.ErrConstraint, "11 00"), wrong(api.ErrConstraint, "00 11"), wrong(api.ErrConstraint, "00 11 1"))
	octetsAre(t, d, api.ErrShort, api.Value{})
	decoded(t, rows(t, `IA5String (FROM ("abcde")) (SIZE (2))`), apart(str("eb"), "100 001", "0100 0001"), wrongApart(api.ErrConstraint, "101 001", "0101 0001"))
	d[0].From = "\x01\x02\x03"
	decoded(t, d, same(str("\x01\x03"), "01 11"), wrong(api.ErrConstraint, "01 00"))
	d = rows(t, `SEQUENCE { p0 BOOLEAN, p1 IA5String (FROM ("ab")) (SIZE (16)), p2 IA5String (FROM ("ab")) (SIZE (17)), p3 IA5String }`)
	decoded(t, d, aligning(all(boolean(1), str("aaaaaaaaaaaaaaab"), str("baaaaaaaaaaaaaaab"), str("")), "1 0000000000000001 - 10000000000000001 - 00000000"))
}

// P17.1: Str with Ext, in its Set and beside it.
func TestStrExt(t *testing.T) {
	decoded(t, rows(t, `IA5String (FROM ("ab")) (SIZE (1, ...))`), same(str("b"), "0 1"), aligning(str("bb"), "1 - 00000010 11"), aligning(str(""), "1 - 00000000"), wrong(api.ErrForm, "1 - 00000001 1"))
	decoded(t, rows(t, "IA5String (SIZE (0..1, ...))"), apart(str("a"), "0 1 1100001", "0 1 01100001"), apart(str("ab"), "1 00000010 1100001 1100010", "1 - 00000010 01100001 01100010"), wrongApart(api.ErrForm, "1 00000001 1100001", "1 - 00000001 01100001"), wrong(api.ErrForm, "1 - 00000000"))
	decoded(t, rows(t, "IA5String (SIZE (2..MAX, ...))"), apart(str("ab"), "0 00000010 1100001 1100010", "0 - 00000010 01100001 01100010"), apart(str("a"), "1 00000001 1100001", "1 - 00000001 01100001"), wrong(api.ErrConstraint, "0 - 00000000"))
	decoded(t, rows(t, `IA5String (FROM ("a")) (SIZE (0 | 2, ...))`), same(str(""), "0 00"), same(str("aa"), "0 10"), aligning(str("a"), "1 - 00000001"), wrong(api.ErrConstraint, "0 01"), wrong(api.ErrForm, "1 - 00000010"), wrong(api.ErrConstraint, "0 11"))
	// A character that is not in the alphabet is told ahead of a size in the Set.
	decoded(t, rows(t, `IA5String (FROM ("abc")) (SIZE (1, ...))`), wrong(api.ErrConstraint, "1 - 00000001 11"), wrong(api.ErrForm, "1 - 00000001 10"), wrong(api.ErrConstraint, "1 - 00000010 10 11"), wrong(api.ErrConstraint, "0 11"))
}

// long is so many units of a Kind, with their digits in both variants.
func long(kind, size int) row {
	s := strings.Repeat("01", size/2) + strings.Repeat("1", size%2)
	v := api.Value{Kind: kind, S: s}
	switch kind {
	case api.Octets:
		return same(v, strings.NewReplacer("0", "00110000", "1", "00110001").Replace(s))
	case api.Str:
		return apart(v, strings.NewReplacer("0", "0110000", "1", "0110001").Replace(s), strings.NewReplacer("0", "00110000", "1", "00110001").Replace(s))
	}
	return same(v, s)
}

// kinds are the text of each Kind of strings.
func kinds() map[int]string {
	return map[int]string{api.Bits: "BIT STRING", api.Octets: "OCTET STRING", api.Str: "IA5String"}
}

// headed is a row with other digits ahead of its own, and behind them.
func headed(x row, head, behind string) row {
	x.unaligned = strings.ReplaceAll(head, "-", "") + x.unaligned + strings.ReplaceAll(behind, "-", "")
	x.padded = head + x.padded + behind
	return x
}

// refused is a row whose digits are an error.
func refused(x row, e api.Errno) row {
	x.value, x.fault = api.Value{}, e
	return x
}

// P17.1: strings with fragments.
func TestLongStrings(t *testing.T) {
	for kind, name := range kinds() {
		open := rows(t, name)
		brief(t, open, headed(long(kind, 127), "01111111", ""), headed(long(kind, 128), "10 00000010000000", ""), headed(long(kind, 16383), "10 11111111111111", ""))
		x := headed(long(kind, 16384), "11000001", "- 00000000")
		brief(t, open, x)
		brief(t, rows(t, name+" (SIZE (16384..MAX))"), x)
		brief(t, rows(t, name+" (SIZE (16385..MAX))"), refused(x, api.ErrConstraint))
		brief(t, rows(t, name+" (SIZE (1..70000))"), x)
		brief(t, rows(t, name+" (SIZE (1, ...))"), headed(long(kind, 16384), "1 - 11000001", "- 00000000"))
		brief(t, rows(t, name+" (SIZE (16384, ...))"), headed(long(kind, 16384), "0 -", ""), refused(headed(long(kind, 16384), "1 - 11000001", "- 00000000"), api.ErrForm))
		x = headed(long(kind, 65536), "11000100", "00000000")
		brief(t, open, x)
		brief(t, rows(t, name+" (SIZE (65536))"), x)
		brief(t, rows(t, name+" (SIZE (65537))"), refused(x, api.ErrConstraint))
		brief(t, rows(t, name+" (SIZE (65536, ...))"), headed(long(kind, 65536), "0 - 11000100", "- 00000000"), refused(headed(long(kind, 65536), "1 - 11000100", "- 00000000"), api.ErrForm))
		// A fragment behind one that is not as great as it may be, be its units
		// there or not.
		brief(t, open, refused(headed(long(kind, 16384), "11000001", "- 11000001"), api.ErrForm), refused(headed(long(kind, 49152), "11000011", "- 11000100"), api.ErrForm))
		brief(t, open, refused(headed(long(kind, 65536), "11000100", "- 11000001"), api.ErrShort), refused(headed(long(kind, 16384), "11000001", "- 00001000"), api.ErrShort))
	}
	x := long(api.Bits, 70000)
	brief(t, rows(t, "BIT STRING (SIZE (70000..80000))"), same(x.value, "11000100"+x.value.S[:65536]+"10 01000101110000"+x.value.S[65536:]))
	brief(t, rows(t, "BIT STRING (SIZE (80000..90000))"), wrong(api.ErrConstraint, "11000100"+x.value.S[:65536]+"10 01000101110000"+x.value.S[65536:]))
	a := strings.Repeat("a", 70000)
	brief(t, rows(t, `IA5String (FROM ("a"))`), same(str(a[:16384]), "11000001 00000000"), same(str(a), "11000100 10 01000101110000"), wrong(api.ErrForm, "11000001 11000001 00000000"))
}

// P17.1: strings as long as they may be, and longer ones.
func TestLongestStrings(t *testing.T) {
	t.Parallel()
	for kind, name := range kinds() {
		x := long(kind, 65536)
		var most row
		for range 16 {
			most.value = api.Value{Kind: kind, S: most.value.S + x.value.S}
			most = headed(most, "", "11000100"+x.unaligned)
			if kind == api.Str {
				most.padded = most.padded[:len(most.padded)-len(x.unaligned)] + x.padded
			}
		}
		more := refused(headed(most, "", "00000001"), api.ErrLarge)
		for _, bounds := range []string{"", " (SIZE (1048576))", " (SIZE (1048576..1048577))"} {
			brief(t, rows(t, name+bounds), headed(most, "", "00000000"), more)
		}
		brief(t, rows(t, name+" (SIZE (1048577))"), more, refused(headed(most, "", "00000000"), api.ErrConstraint))
		brief(t, rows(t, name+" (SIZE (5, ...))"), headed(most, "1 -", "00000000"), headed(more, "1 -", ""))
	}
	// Without digits, too.
	most := strings.Repeat("11000100", 16)
	d := rows(t, `IA5String (FROM ("a"))`)
	brief(t, d, same(str(strings.Repeat("a", 1<<20)), most+zeros), wrong(api.ErrLarge, most+"00000001"), wrong(api.ErrLarge, most+"11000001"), wrong(api.ErrShort, most), wrong(api.ErrForm, most[8:]+"11000011 11000100"))
}
