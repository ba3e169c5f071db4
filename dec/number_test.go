package dec_test

import (
	"math"
	"strings"
	"testing"

	"spandrel/api"
)

const (
	least    = math.MinInt
	greatest = math.MaxInt
)

// Octets that are all zeros, and all ones.
const (
	zeros = "00000000"
	ones  = "11111111"
)

// sevens is seven times some digits.
func sevens(text string) string { return strings.Repeat(text, 7) }

// numbers is a table of a row of Int with these ranges.
func numbers(ext bool, l ...api.Range) []api.Desc {
	return []api.Desc{{Kind: api.Int, Ext: ext, Set: l, Lo: l[0].Lo, Hi: l[len(l)-1].Hi}}
}

// P17.1: Int with both ends.
func TestIntBetween(t *testing.T) {
	decoded(t, rows(t, "INTEGER (0..7)"), same(integer(0), "000"), same(integer(5), "101"), same(integer(7), "111"), wrong(api.ErrForm, "101 1"))
	decoded(t, rows(t, "INTEGER (-2..0)"), same(integer(-2), "00"), same(integer(-1), "01"), same(integer(0), "10"), wrong(api.ErrConstraint, "11"))
	decoded(t, rows(t, "INTEGER (7)"), same(integer(7), ""), wrong(api.ErrForm, "1"))
	decoded(t, rows(t, "INTEGER (0..254)"), same(integer(254), "11111110"), wrong(api.ErrConstraint, "11111111"))
	decoded(t, rows(t, "INTEGER (0..255)"), same(integer(255), ones))
	decoded(t, rows(t, "INTEGER (1..300)"), apart(integer(2), "000000001", "00000000 00000001"), apart(integer(300), "100101011", "00000001 00101011"), wrongApart(api.ErrConstraint, "100101100", "00000001 00101100"))
	decoded(t, rows(t, "INTEGER (0..65535)"), same(integer(258), "00000001 00000010"))
	octetsAre(t, rows(t, "INTEGER (0..65535)"), api.ErrShort, api.Value{}, 1)
	decoded(t, rows(t, "INTEGER (0..100000)"),
		apart(integer(5), "00000000000000101", "00 - 00000101"), apart(integer(256), "00000000100000000", "01 - 00000001 00000000"), apart(integer(100000), "11000011010100000", "10 - 00000001 10000110 10100000"),
		wrongApart(api.ErrConstraint, "11000011010100001", "10 - 00000001 10000110 10100001"))
	d := rows(t, "INTEGER (0..100000)")
	for _, x := range []struct {
		e api.Errno
		b []byte
	}{
		{api.ErrConstraint, []byte{0b11000000, 1, 1, 1, 1}}, {api.ErrForm, []byte{0b01000000, 0, 5}}, {api.ErrForm, []byte{0b00100000, 5}}, {api.ErrForm, []byte{0b00000001, 5}},
		{api.ErrShort, []byte{0b01000000, 1}}, {api.ErrShort, []byte{0}}, {api.ErrShort, nil}, {api.ErrForm, []byte{0, 5, 0}},
	} {
		if v, e := hold(t, d, true, x.b); e != x.e {
			t.Error(x.b, shown(v), e)
		}
	}
	// Where an Align is, there is one within a Seq.
	d = rows(t, "SEQUENCE { p0 BOOLEAN, p1 INTEGER (0..255), p2 BOOLEAN, p3 INTEGER (-1..255) }")
	decoded(t, d, apart(all(boolean(1), integer(255), boolean(1), integer(-1)), "1 11111111 1 000000000", "1 - 11111111 1 - 00000000 00000000"))
	for _, b := range [][]byte{{0b10000001, 255, 128, 0, 0}, {0b11000000, 255, 128, 0, 0}, {128, 255, 129, 0, 0}} {
		if v, e := hold(t, d, true, b); e != api.ErrForm {
			t.Error(b, shown(v), e)
		}
	}
	// After a bit 0, or without one, a number in a gap of the Set.
	decoded(t, rows(t, "INTEGER (0..3 | 6..7)"), same(integer(0), "000"), same(integer(3), "011"), wrong(api.ErrConstraint, "100"), wrong(api.ErrConstraint, "101"), same(integer(6), "110"), same(integer(7), "111"))
	decoded(t, numbers(false, api.Range{Lo: least + 1, Hi: least + 2}, api.Range{Lo: 0, Hi: 0}, api.Range{Lo: greatest - 1, Hi: greatest - 1}),
		apart(integer(least+1), strings.Repeat("0", 64), "000 - 00000000"), apart(integer(least+2), strings.Repeat("0", 63)+"1", "000 - 00000001"), wrongApart(api.ErrConstraint, strings.Repeat("0", 62)+"10", "000 - 00000010"),
		apart(integer(0), "0"+strings.Repeat("1", 63), "111 - 01111111"+sevens(ones)), apart(integer(greatest-1), sevens(ones)+"11111101", "111 - "+sevens(ones)+"11111101"),
		wrongApart(api.ErrConstraint, sevens(ones)+"11111110", "111 - "+sevens(ones)+"11111110"))
}

// P17.1: Int with a lower end alone.
func TestIntFrom(t *testing.T) {
	d := rows(t, "INTEGER (1..MAX)")
	decoded(t, d, same(integer(1), "00000001 00000000"), same(integer(256), "00000001 11111111"), same(integer(300), "00000010 00000001 00101011"),
		same(integer(greatest), "00001000 01111111"+strings.Repeat(ones, 6)+"11111110"),
		wrong(api.ErrLarge, "00001000 01111111"+sevens(ones)), wrong(api.ErrLarge, "00001000"+sevens(ones)+ones), wrong(api.ErrLarge, "00001001 00000001"+sevens(zeros)+zeros),
		wrong(api.ErrForm, "00000000"), wrong(api.ErrForm, "00000010 00000000 00000001"), wrong(api.ErrForm, "00001001"+sevens(zeros)+zeros+zeros), wrong(api.ErrForm, "10000000 00000001 00000001"),
		wrong(api.ErrForm, "11000001"), wrong(api.ErrForm, "11000101"), wrong(api.ErrShort, "00000001"), wrong(api.ErrShort, "10000000"), wrong(api.ErrForm, "00000001 00000000 00000000"))
	octetsAre(t, d, api.ErrShort, api.Value{})
	decoded(t, rows(t, "INTEGER (-5..MAX)"), same(integer(-5), "00000001 00000000"), same(integer(0), "00000001 00000101"))
	decoded(t, rows(t, "INTEGER (0..9 | 20..MAX)"), same(integer(9), "00000001 00001001"), wrong(api.ErrConstraint, "00000001 00001010"), wrong(api.ErrConstraint, "00000001 00010011"), same(integer(20), "00000001 00010100"), same(integer(greatest), "00001000 01111111"+sevens(ones)))
	decoded(t, rows(t, "INTEGER (9223372036854775807)"), same(integer(greatest), "00000001 00000000"), wrong(api.ErrLarge, "00000001 00000001"))
	decoded(t, numbers(false, api.Range{Lo: least + 1, Hi: greatest}),
		same(integer(least+1), "00000001 00000000"), same(integer(0), "00001000 01111111"+sevens(ones)), same(integer(greatest), "00001000"+sevens(ones)+"11111110"), wrong(api.ErrLarge, "00001000"+sevens(ones)+ones))
	d = rows(t, "SEQUENCE { p0 BOOLEAN, p1 INTEGER (1..MAX), p2 BOOLEAN }")
	decoded(t, d, aligning(all(boolean(1), integer(300), boolean(1)), "1 - 00000010 00000001 00101011 1"))
	if _, e := hold(t, d, true, []byte{0b10010000, 1, 0, 128}); e != api.ErrForm {
		t.Error(e)
	}
}

// P17.1: Int without a lower end, be there an upper one or not.
func TestIntAny(t *testing.T) {
	for _, text := range []string{"INTEGER", "INTEGER (MIN..MAX)", "INTEGER (MIN..128)", "INTEGER (MIN..-9 | -1..1 | 127..500)", "INTEGER (MIN..MAX EXCEPT 5)"} {
		decoded(t, rows(t, text), same(integer(-1), "00000001 11111111"), same(integer(0), "00000001 00000000"), same(integer(127), "00000001 01111111"),
			same(integer(128), "00000010 00000000 10000000"), same(integer(-128), "00000001 10000000"), same(integer(-129), "00000010 11111111 01111111"),
			same(integer(least), "00001000 10000000"+sevens(zeros)),
			wrong(api.ErrForm, "00000000"), wrong(api.ErrForm, "00000010 00000000 01111111"), wrong(api.ErrForm, "00000010 11111111 10000000"), wrong(api.ErrForm, "11000100"),
			wrong(api.ErrLarge, "00001001 00000000 10000000"+sevens(zeros)), wrong(api.ErrForm, "00001001 00000000 01111111"+sevens(zeros)), wrong(api.ErrShort, "00000010 00000001"))
	}
	decoded(t, rows(t, "INTEGER"), same(integer(greatest), "00001000 01111111"+sevens(ones)))
	decoded(t, rows(t, "INTEGER (MIN..5)"), same(integer(5), "00000001 00000101"), wrong(api.ErrConstraint, "00000001 00000110"), wrong(api.ErrConstraint, "00001000 01111111"+sevens(ones)))
	decoded(t, rows(t, "INTEGER (MIN..MAX EXCEPT 5)"), same(integer(4), "00000001 00000100"), wrong(api.ErrConstraint, "00000001 00000101"), same(integer(6), "00000001 00000110"))
	decoded(t, numbers(false, api.Range{Lo: least, Hi: least}), same(integer(least), "00001000 10000000"+sevens(zeros)), wrong(api.ErrConstraint, "00001000 10000000"+strings.Repeat(zeros, 6)+"00000001"))
	decoded(t, numbers(false, api.Range{Lo: least, Hi: least}, api.Range{Lo: greatest, Hi: greatest}),
		same(integer(least), "00001000 10000000"+sevens(zeros)), same(integer(greatest), "00001000 01111111"+sevens(ones)), wrong(api.ErrConstraint, "00000001 00000000"))
	d := rows(t, "SEQUENCE { p0 BOOLEAN, p1 INTEGER (MIN..5), p2 BOOLEAN }")
	decoded(t, d, aligning(all(boolean(1), integer(-3), boolean(1)), "1 - 00000001 11111101 1"))
}

// P17.1: Int with Ext: after a bit 1, a number in the Set, at both ends of it, and
// beside it; after a bit 0, one between the ends that is not in it.
func TestIntExt(t *testing.T) {
	d := rows(t, "INTEGER (0..7, ...)")
	decoded(t, d, same(integer(5), "0 101"), same(integer(0), "0 000"), same(integer(7), "0 111"),
		aligning(integer(9), "1 - 00000001 00001001"), aligning(integer(8), "1 - 00000001 00001000"), aligning(integer(-1), "1 - 00000001 11111111"),
		aligning(integer(200), "1 - 00000010 00000000 11001000"),
		aligning(integer(least), "1 - 00001000 10000000"+sevens(zeros)), aligning(integer(greatest), "1 - 00001000 01111111"+sevens(ones)),
		wrong(api.ErrForm, "1 - 00000001 00000000"), wrong(api.ErrForm, "1 - 00000001 00000111"), wrong(api.ErrForm, "1 - 00000001 00000011"), wrong(api.ErrShort, "1 - 00000001"), wrong(api.ErrForm, "1 - 00000010 00000000 00001001"))
	decoded(t, rows(t, "INTEGER (5, ...)"), same(integer(5), "0"), aligning(integer(4), "1 - 00000001 00000100"), wrong(api.ErrForm, "1 - 00000001 00000101"), aligning(integer(6), "1 - 00000001 00000110"))
	decoded(t, rows(t, "INTEGER (0..255, ...)"), aligning(integer(5), "0 - 00000101"))
	d = rows(t, "INTEGER (0..3 | 6..7 | 12, ...)")
	decoded(t, d, same(integer(3), "0 0011"), same(integer(6), "0 0110"), same(integer(12), "0 1100"),
		wrong(api.ErrConstraint, "0 0100"), wrong(api.ErrConstraint, "0 1011"), wrong(api.ErrConstraint, "0 1101"), wrong(api.ErrConstraint, "0 1111"),
		aligning(integer(4), "1 - 00000001 00000100"), aligning(integer(5), "1 - 00000001 00000101"), aligning(integer(8), "1 - 00000001 00001000"), aligning(integer(11), "1 - 00000001 00001011"), aligning(integer(13), "1 - 00000001 00001101"), aligning(integer(-1), "1 - 00000001 11111111"),
		wrong(api.ErrForm, "1 - 00000001 00000000"), wrong(api.ErrForm, "1 - 00000001 00000011"), wrong(api.ErrForm, "1 - 00000001 00000110"), wrong(api.ErrForm, "1 - 00000001 00000111"), wrong(api.ErrForm, "1 - 00000001 00001100"))
	d = rows(t, "INTEGER (1..MAX, ...)")
	decoded(t, d, aligning(integer(300), "0 - 00000010 00000001 00101011"), aligning(integer(1), "0 - 00000001 00000000"), aligning(integer(0), "1 - 00000001 00000000"), aligning(integer(-300), "1 - 00000010 11111110 11010100"),
		wrong(api.ErrForm, "1 - 00000001 00000001"), wrong(api.ErrForm, "1 - 00001000 01111111"+sevens(ones)))
	d = rows(t, "INTEGER (MIN..5, ...)")
	decoded(t, d, aligning(integer(5), "0 - 00000001 00000101"), wrong(api.ErrConstraint, "0 - 00000001 00000110"), aligning(integer(6), "1 - 00000001 00000110"), wrong(api.ErrForm, "1 - 00000001 00000101"), wrong(api.ErrForm, "1 - 00001000 10000000"+sevens(zeros)))
	decoded(t, rows(t, "INTEGER (MIN..MAX, ...)"), aligning(integer(5), "0 - 00000001 00000101"), aligning(integer(least), "0 - 00001000 10000000"+sevens(zeros)), wrong(api.ErrForm, "1 - 00000001 00000101"))
	decoded(t, rows(t, "INTEGER (MIN..0 | 5..MAX, ...)"), aligning(integer(5), "0 - 00000001 00000101"), aligning(integer(4), "1 - 00000001 00000100"), wrong(api.ErrConstraint, "0 - 00000001 00000100"), wrong(api.ErrForm, "1 - 00000001 00000000"))
	decoded(t, numbers(true, api.Range{Lo: least, Hi: least}), aligning(integer(least), "0 - 00001000 10000000"+sevens(zeros)), wrong(api.ErrForm, "1 - 00001000 10000000"+sevens(zeros)), aligning(integer(least+1), "1 - 00001000 10000000"+strings.Repeat(zeros, 6)+"00000001"))
	octetsAre(t, d, api.ErrShort, api.Value{})
}

// P17.1: Int with a Set of many ranges.
func TestIntManyRanges(t *testing.T) {
	var l []api.Range
	for k := range 100 {
		l = append(l, api.Range{Lo: 5*k - 200, Hi: 5*k - 200 + k%3})
	}
	for n := -202; n < 310; n += 3 {
		at := n + 200
		isIn := at >= 0 && at < 500 && at%5 <= at/5%3
		beyond := aligning(integer(n), "1 - 00000010"+digits(n, 16))
		if n >= -128 && n < 128 {
			beyond = aligning(integer(n), "1 - 00000001"+digits(n, 8))
		}
		if isIn {
			beyond = refused(beyond, api.ErrForm)
		}
		decoded(t, numbers(true, l...), beyond)
		if at < 0 {
			continue
		}
		// Between the ends, there are two octets in the aligned variant.
		within := apart(integer(n), digits(at, 9), digits(at, 16))
		if !isIn {
			within = refused(within, api.ErrConstraint)
		}
		decoded(t, numbers(false, l...), within)
		decoded(t, numbers(true, l...), headed(within, "0 -", ""))
	}
}
