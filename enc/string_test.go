package enc_test

import (
	"strings"
	"testing"

	"spandrel/api"
)

// P16.1: Bits.
func TestBits(t *testing.T) {
	encoded(t, rows(t, "BIT STRING (SIZE (3))"), same(bits("101"), "101"), same(bits("000"), "000"))
	encoded(t, rows(t, "BIT STRING (SIZE (0))"), same(bits(""), ""))
	encoded(t, rows(t, "BIT STRING (SIZE (0..7))"), aligning(bits("101"), "011 - 101"), same(bits(""), "000"), aligning(bits("1111111"), "111 - 1111111"))
	encoded(t, rows(t, "BIT STRING"), same(bits(""), "00000000"), same(bits("101"), "00000011 101"))
	encoded(t, rows(t, "BIT STRING (SIZE (2..MAX))"), same(bits("01"), "00000010 01"))
	encoded(t, rows(t, "BIT STRING (SIZE (0..65536))"), same(bits("1"), "00000001 1"))
	encoded(t, rows(t, "BIT STRING (SIZE (0..65535))"), same(bits("1"), "00000000 00000001 1"))
	d := rows(t, "BIT STRING (SIZE (0..1 | 4))")
	encoded(t, d, aligning(bits("1"), "001 - 1"), aligning(bits("1010"), "100 - 1010"))
	fails(t, d, api.ErrConstraint, bits("11"), bits("111"), bits("11111"), bits("2"), bits("a"), octets("1"), str("1"))
	d = rows(t, "SEQUENCE { p0 BOOLEAN, p1 BIT STRING (SIZE (16)), p2 BOOLEAN, p3 BIT STRING (SIZE (17)), p4 BIT STRING }")
	encoded(t, d, aligning(all(boolean(1), bits("1111000011110000"), boolean(0), bits("11110000111100001"), bits("1")), "1 1111000011110000 0 - 11110000111100001 - 00000001 1"))
}

// P16.1: Bits with Ext, in its Set and beside it.
func TestBitsExt(t *testing.T) {
	encoded(t, rows(t, "BIT STRING (SIZE (3, ...))"), same(bits("101"), "0 101"), aligning(bits("10"), "1 - 00000010 10"), aligning(bits("1010"), "1 - 00000100 1010"), aligning(bits(""), "1 - 00000000"))
	encoded(t, rows(t, "BIT STRING (SIZE (1..2, ...))"), aligning(bits("1"), "0 0 - 1"), aligning(bits("10"), "0 1 - 10"), aligning(bits(""), "1 - 00000000"), aligning(bits("111"), "1 - 00000011 111"))
	encoded(t, rows(t, "BIT STRING (SIZE (0, ...))"), same(bits(""), "0"), aligning(bits("1"), "1 - 00000001 1"))
	encoded(t, rows(t, "BIT STRING (SIZE (0..1 | 4, ...))"), aligning(bits("1010"), "0 100 - 1010"), aligning(bits("101"), "1 - 00000011 101"))
	encoded(t, rows(t, "BIT STRING (SIZE (2..MAX, ...))"), aligning(bits("10"), "0 - 00000010 10"), aligning(bits("1"), "1 - 00000001 1"))
	fails(t, rows(t, "BIT STRING (SIZE (3, ...))"), api.ErrConstraint, bits("2"), bits("0 1"))
}

// P16.1: Octets.
func TestOctets(t *testing.T) {
	encoded(t, rows(t, "OCTET STRING (SIZE (2))"), same(octets("\x07\x08"), "00000111 00001000"), same(octets("\x00\xff"), zeros+ones))
	encoded(t, rows(t, "OCTET STRING (SIZE (0))"), same(octets(""), ""))
	encoded(t, rows(t, "OCTET STRING (SIZE (0..3))"), same(octets(""), "00"), aligning(octets("\x07\x08"), "10 - 00000111 00001000"))
	encoded(t, rows(t, "OCTET STRING"), same(octets(""), "00000000"), same(octets("\x07\x08"), "00000010 00000111 00001000"))
	encoded(t, rows(t, "OCTET STRING (SIZE (1..MAX))"), same(octets("\x07"), "00000001 00000111"))
	encoded(t, rows(t, "OCTET STRING (SIZE (1..65536))"), same(octets("\x07"), "00000001 00000111"))
	d := rows(t, "OCTET STRING (SIZE (1 | 3))")
	encoded(t, d, aligning(octets("\x07"), "00 - 00000111"), aligning(octets("\x07\x07\x07"), "10 - 00000111 00000111 00000111"))
	fails(t, d, api.ErrConstraint, octets(""), octets("\x07\x08"), octets("1234"), bits("1"), str("a"))
	d = rows(t, "SEQUENCE { p0 BOOLEAN, p1 OCTET STRING (SIZE (2)), p2 BOOLEAN, p3 OCTET STRING (SIZE (3)), p4 BOOLEAN }")
	encoded(t, d, aligning(all(boolean(1), octets("\x00\xff"), boolean(0), octets("\x00\xff\x00"), boolean(1)), "1 00000000 11111111 0 - 00000000 11111111 00000000 1"))
}

// P16.1: Octets with Ext, in its Set and beside it.
func TestOctetsExt(t *testing.T) {
	encoded(t, rows(t, "OCTET STRING (SIZE (2, ...))"), same(octets("\x07\x08"), "0 00000111 00001000"), aligning(octets("\x07"), "1 - 00000001 00000111"), aligning(octets("\x07\x08\x09"), "1 - 00000011 00000111 00001000 00001001"))
	encoded(t, rows(t, "OCTET STRING (SIZE (3, ...))"), aligning(octets("\x07\x08\x09"), "0 - 00000111 00001000 00001001"))
	encoded(t, rows(t, "OCTET STRING (SIZE (0..3, ...))"), same(octets(""), "0 00"), aligning(octets("\x07"), "0 01 - 00000111"), aligning(octets("\x00\x01\x02\x03"), "1 - 00000100 00000000 00000001 00000010 00000011"))
	encoded(t, rows(t, "OCTET STRING (SIZE (1..MAX, ...))"), aligning(octets(""), "1 - 00000000"), aligning(octets("\x07"), "0 - 00000001 00000111"))
}

// P16.1: Str, with From empty, and with an alphabet.
func TestStr(t *testing.T) {
	d := rows(t, "IA5String")
	encoded(t, d, same(str(""), "00000000"), row{str("a"), "00000001 1100001", "00000001 01100001"}, row{str("\x00\x7f"), "00000010 0000000 1111111", "00000010 00000000 01111111"})
	fails(t, d, api.ErrConstraint, str("\x80"), str("ü"), str("a\xff"), octets("a"), bits("1"))
	encoded(t, rows(t, "IA5String (SIZE (2))"), row{str("ab"), "1100001 1100010", "01100001 01100010"})
	encoded(t, rows(t, "IA5String (SIZE (0))"), same(str(""), ""))
	encoded(t, rows(t, "IA5String (SIZE (0..1))"), row{str("a"), "1 1100001", "1 01100001"}, same(str(""), "0"))
	encoded(t, rows(t, "IA5String (SIZE (0..2))"), row{str("a"), "01 1100001", "01 - 01100001"}, same(str(""), "00"))
	encoded(t, rows(t, "IA5String (SIZE (1..MAX))"), row{str("a"), "00000001 1100001", "00000001 01100001"})
	encoded(t, rows(t, `IA5String (FROM ("a"))`), same(str("aaa"), "00000011"), same(str(""), "00000000"))
	encoded(t, rows(t, `IA5String (FROM ("a")) (SIZE (3))`), same(str("aaa"), ""))
	encoded(t, rows(t, `IA5String (FROM ("a")) (SIZE (0..3))`), same(str("aa"), "10"))
	d = rows(t, `IA5String (FROM ("ab")) (SIZE (0..3))`)
	encoded(t, d, same(str("b"), "01 1"), same(str("aba"), "11 010"))
	fails(t, d, api.ErrConstraint, str("c"), str("abab"), str("aB"))
	encoded(t, rows(t, `IA5String (FROM ("ab")) (SIZE (0..15))`), same(str("ba"), "0010 10"))
	encoded(t, rows(t, `IA5String (FROM ("ab")) (SIZE (0..16))`), aligning(str("ba"), "00010 - 10"))
	encoded(t, rows(t, `IA5String (FROM ("abc")) (SIZE (2))`), same(str("cb"), "10 01"))
	encoded(t, rows(t, `IA5String (FROM ("abcde")) (SIZE (2))`), row{str("eb"), "100 001", "0100 0001"})
	// Where the codes have few bits enough, they are the numbers.
	d[0].From, d[0].Set, d[0].Lo, d[0].Hi = "\x01\x02\x03", []api.Range{{Lo: 2, Hi: 2}}, 2, 2
	encoded(t, d, same(str("\x01\x03"), "01 11"))
	d = rows(t, `SEQUENCE { p0 BOOLEAN, p1 IA5String (FROM ("ab")) (SIZE (16)), p2 IA5String (FROM ("ab")) (SIZE (17)), p3 IA5String }`)
	encoded(t, d, aligning(all(boolean(1), str("aaaaaaaaaaaaaaab"), str("baaaaaaaaaaaaaaab"), str("")), "1 0000000000000001 - 10000000000000001 - 00000000"))
}

// P16.1: Str with Ext, in its Set and beside it.
func TestStrExt(t *testing.T) {
	d := rows(t, `IA5String (FROM ("ab")) (SIZE (1, ...))`)
	encoded(t, d, same(str("b"), "0 1"), aligning(str("bb"), "1 - 00000010 11"), aligning(str(""), "1 - 00000000"))
	fails(t, d, api.ErrConstraint, str("c"), str("bc"))
	encoded(t, rows(t, "IA5String (SIZE (0..1, ...))"), row{str("a"), "0 1 1100001", "0 1 01100001"}, row{str("ab"), "1 00000010 1100001 1100010", "1 - 00000010 01100001 01100010"})
	encoded(t, rows(t, "IA5String (SIZE (2..MAX, ...))"), row{str("ab"), "0 00000010 1100001 1100010", "0 - 00000010 01100001 01100010"}, row{str("a"), "1 00000001 1100001", "1 - 00000001 01100001"})
	encoded(t, rows(t, `IA5String (FROM ("a")) (SIZE (0 | 2, ...))`), same(str(""), "0 00"), same(str("aa"), "0 10"), aligning(str("a"), "1 - 00000001"))
	// With an alphabet of 4 characters, an Align is ahead of 16 bits, not of 14.
	encoded(t, rows(t, `IA5String (FROM ("abcd")) (SIZE (0..7, ...))`), same(str("d"), "0 001 11"))
	encoded(t, rows(t, `IA5String (FROM ("abcd")) (SIZE (0..8, ...))`), aligning(str("d"), "0 0001 - 11"))
}

// long is so many units of a Kind, and their digits in both variants.
func long(kind, size int) row {
	s := strings.Repeat("01", size/2) + strings.Repeat("1", size%2)
	v := api.Value{Kind: kind, S: s}
	switch kind {
	case api.Octets:
		return same(v, strings.NewReplacer("0", "00110000", "1", "00110001").Replace(s))
	case api.Str:
		return row{v, strings.NewReplacer("0", "0110000", "1", "0110001").Replace(s), strings.NewReplacer("0", "00110000", "1", "00110001").Replace(s)}
	}
	return same(v, s)
}

// P16.1: strings of sizes about those at which there are fragments.
func TestLongStrings(t *testing.T) {
	for _, size := range []int{127, 128, 16383, 16384, 16385, 32768, 65535, 65536, 65537, 70000, 81920 + 200} {
		for kind, name := range map[int]string{api.Bits: "BIT STRING", api.Octets: "OCTET STRING", api.Str: "IA5String"} {
			x := long(kind, size)
			for _, bounds := range []string{"", " (SIZE (1..MAX))", " (SIZE (100..70000))", " (SIZE (1..65535))", " (SIZE (65536 | 70000))", " (SIZE (65537))", " (SIZE (16384))"} {
				d := rows(t, name+bounds)
				want := api.ErrConstraint
				if isInSet(d[0], size) {
					want = api.OK
				}
				if e := hold(t, d, x.value); e != want {
					t.Error(name, bounds, size, e)
				}
				d[0].Ext = true
				if e := hold(t, d, x.value); e != api.OK {
					t.Error(name, bounds, size, e)
				}
			}
		}
	}
}

// isInSet tells whether a number is in one of the ranges of a row.
func isInSet(r api.Desc, n int) bool {
	for _, x := range r.Set {
		if x.Lo <= n && n <= x.Hi {
			return true
		}
	}
	return false
}

// P16.1: fragments, spelled out.
func TestFragmentsOfStrings(t *testing.T) {
	x := long(api.Octets, 16384)
	encoded(t, rows(t, "OCTET STRING"), same(x.value, "11000001"+x.unaligned+"00000000"))
	encoded(t, rows(t, "OCTET STRING (SIZE (16384))"), x)
	encoded(t, rows(t, "OCTET STRING (SIZE (16384, ...))"), aligning(x.value, "0 -"+x.unaligned))
	encoded(t, rows(t, "OCTET STRING (SIZE (1, ...))"), aligning(x.value, "1 - 11000001"+x.unaligned+"00000000"))
	encoded(t, rows(t, "OCTET STRING (SIZE (16383..16384))"), aligning(x.value, "1 -"+x.unaligned))
	x = long(api.Bits, 70000)
	encoded(t, rows(t, "BIT STRING (SIZE (70000..80000))"), aligning(x.value, "11000100"+x.value.S[:65536]+"10 01000101110000"+x.value.S[65536:]))
	x = long(api.Str, 65536)
	encoded(t, rows(t, "IA5String (SIZE (65536))"), row{x.value, "11000100" + x.unaligned + "00000000", "11000100" + x.padded + "00000000"})
	// Characters of no bits, of one bit, and of two.
	encoded(t, rows(t, `IA5String (FROM ("a"))`), same(str(strings.Repeat("a", 16384)), "11000001 00000000"), same(str(strings.Repeat("a", 70000)), "11000100 10 01000101110000"))
	encoded(t, rows(t, `IA5String (FROM ("a")) (SIZE (2..3, ...))`), aligning(str(strings.Repeat("a", 16384)), "1 - 11000001 00000000"))
	v, s := str(long(api.Bits, 16385).value.S), long(api.Bits, 16385).unaligned
	encoded(t, rows(t, `IA5String (FROM ("01"))`), aligning(v, "11000001"+s[:16384]+"00000001"+s[16384:]))
	encoded(t, rows(t, `IA5String (FROM ("01")) (SIZE (16385, ...))`), aligning(v, "0 -"+s))
	encoded(t, rows(t, `IA5String (FROM ("abcd"))`), same(str(strings.Repeat("d", 16384)), "11000001"+strings.Repeat("11", 16384)+"00000000"))
	x = long(api.Str, 65535)
	encoded(t, rows(t, "IA5String (SIZE (65535))"), x)
}

// P16.1: strings as long as they may be, and longer ones.
func TestLongestStrings(t *testing.T) {
	for kind, name := range map[int]string{api.Bits: "BIT STRING", api.Octets: "OCTET STRING", api.Str: "IA5String"} {
		for _, bounds := range []string{"", " (SIZE (1048576))", " (SIZE (5, ...))"} {
			d := rows(t, name+bounds)
			if e := hold(t, d, long(kind, api.MaxLength).value); e != api.OK {
				t.Error(name, bounds, e)
			}
			fails(t, d, api.ErrConstraint, long(kind, api.MaxLength+1).value)
		}
		fails(t, rows(t, name+" (SIZE (1048577))"), api.ErrConstraint, long(kind, api.MaxLength+1).value)
	}
}
