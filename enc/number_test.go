package enc_test

import (
	"math"
	"strings"
	"testing"

	"spandrel/api"
)

const (
	least    = math.MinInt
	greatest = math.MaxInt
)

// numbers is a table of a row of Int with these ranges.
func numbers(ext bool, l ...api.Range) []api.Desc {
	return []api.Desc{{Kind: api.Int, Ext: ext, Set: l, Lo: l[0].Lo, Hi: l[len(l)-1].Hi}}
}

// Octets that are all zeros, and all ones.
const (
	zeros = "00000000"
	ones  = "11111111"
)

// P16.1: Int with both ends.
func TestIntBetween(t *testing.T) {
	encoded(t, rows(t, "INTEGER (0..7)"), same(integer(0), "000"), same(integer(5), "101"), same(integer(7), "111"))
	encoded(t, rows(t, "INTEGER (-2..0)"), same(integer(-2), "00"), same(integer(-1), "01"), same(integer(0), "10"))
	encoded(t, rows(t, "INTEGER (7)"), same(integer(7), ""))
	encoded(t, rows(t, "INTEGER (0..254)"), same(integer(254), "11111110"))
	encoded(t, rows(t, "INTEGER (1..300)"), row{integer(2), "000000001", "00000000 00000001"}, row{integer(300), "100101011", "00000001 00101011"})
	encoded(t, rows(t, "INTEGER (0..65535)"), same(integer(258), "00000001 00000010"))
	encoded(t, rows(t, "INTEGER (0..100000)"),
		row{integer(5), "00000000000000101", "00 - 00000101"}, row{integer(256), "00000000100000000", "01 - 00000001 00000000"}, row{integer(100000), "11000011010100000", "10 - 00000001 10000110 10100000"})
	// Where an Align is, there is one within a Seq.
	d := rows(t, "SEQUENCE { p0 BOOLEAN, p1 INTEGER (0..254), p2 INTEGER (0..255), p3 NULL, p4 BOOLEAN, p5 INTEGER (-1..255), p6 INTEGER (0..7) }")
	encoded(t, d, row{all(boolean(1), integer(255-1), integer(255), null(), boolean(1), integer(-1), integer(6)),
		"1 11111110 11111111 1 000000000 110", "1 11111110 - 11111111 1 - 00000000 00000000 110"})
	// The ends count, not the gaps.
	d = rows(t, "INTEGER (0..3 | 6..7)")
	encoded(t, d, same(integer(0), "000"), same(integer(3), "011"), same(integer(6), "110"), same(integer(7), "111"))
	fails(t, d, api.ErrConstraint, integer(4), integer(5), integer(8), integer(-1), boolean(1), api.Value{Kind: api.Int, S: "5"})
	encoded(t, numbers(false, api.Range{Lo: least + 1, Hi: least + 2}, api.Range{Lo: 0, Hi: 0}, api.Range{Lo: greatest - 1, Hi: greatest - 1}),
		row{integer(least + 1), strings.Repeat("0", 64), "000 - 00000000"}, row{integer(least + 2), strings.Repeat("0", 63) + "1", "000 - 00000001"},
		row{integer(0), "0" + strings.Repeat("1", 63), "111 - 01111111" + strings.Repeat(ones, 7)},
		row{integer(greatest - 1), strings.Repeat(ones, 7) + "11111101", "111 - " + strings.Repeat(ones, 7) + "11111101"})
}

// P16.1: Int with a lower end alone.
func TestIntFrom(t *testing.T) {
	encoded(t, rows(t, "INTEGER (1..MAX)"), same(integer(1), "00000001 00000000"), same(integer(256), "00000001 11111111"), same(integer(300), "00000010 00000001 00101011"),
		same(integer(greatest), "00001000 01111111"+strings.Repeat(ones, 6)+"11111110"))
	encoded(t, rows(t, "INTEGER (-5..MAX)"), same(integer(-5), "00000001 00000000"), same(integer(0), "00000001 00000101"))
	encoded(t, rows(t, "INTEGER (0..9 | 20..MAX)"), same(integer(20), "00000001 00010100"), same(integer(greatest), "00001000 01111111"+strings.Repeat(ones, 7)))
	encoded(t, rows(t, "INTEGER (9223372036854775807)"), same(integer(greatest), "00000001 00000000"))
	encoded(t, numbers(false, api.Range{Lo: least + 1, Hi: greatest}),
		same(integer(least+1), "00000001 00000000"), same(integer(0), "00001000 01111111"+strings.Repeat(ones, 7)), same(integer(greatest), "00001000"+strings.Repeat(ones, 7)+"11111110"))
	d := rows(t, "SEQUENCE { p0 BOOLEAN, p1 INTEGER (1..MAX), p2 BOOLEAN }")
	encoded(t, d, aligning(all(boolean(1), integer(300), boolean(1)), "1 - 00000010 00000001 00101011 1"))
}

// P16.1: Int without a lower end, be there an upper one or not.
func TestIntAny(t *testing.T) {
	for _, text := range []string{"INTEGER", "INTEGER (MIN..MAX)", "INTEGER (MIN..128)", "INTEGER (MIN..-9 | -1..1 | 127..500)", "INTEGER (MIN..MAX EXCEPT 5)"} {
		encoded(t, rows(t, text), same(integer(-1), "00000001 11111111"), same(integer(0), "00000001 00000000"), same(integer(127), "00000001 01111111"),
			same(integer(128), "00000010 00000000 10000000"), same(integer(-128), "00000001 10000000"), same(integer(-129), "00000010 11111111 01111111"),
			same(integer(least), "00001000 10000000"+strings.Repeat(zeros, 7)))
	}
	encoded(t, rows(t, "INTEGER"), same(integer(greatest), "00001000 01111111"+strings.Repeat(ones, 7)))
	encoded(t, numbers(false, api.Range{Lo: least, Hi: least}), same(integer(least), "00001000 10000000"+strings.Repeat(zeros, 7)))
	encoded(t, numbers(false, api.Range{Lo: least, Hi: least}, api.Range{Lo: greatest, Hi: greatest}),
		same(integer(least), "00001000 10000000"+strings.Repeat(zeros, 7)), same(integer(greatest), "00001000 01111111"+strings.Repeat(ones, 7)))
	fails(t, rows(t, "INTEGER (MIN..5)"), api.ErrConstraint, integer(6), integer(greatest))
	d := rows(t, "SEQUENCE { p0 BOOLEAN, p1 INTEGER (MIN..5), p2 BOOLEAN }")
	encoded(t, d, aligning(all(boolean(1), integer(-3), boolean(1)), "1 - 00000001 11111101 1"))
}

// P16.1: Int with Ext, in its Set and beside it.
func TestIntExt(t *testing.T) {
	d := rows(t, "INTEGER (0..7, ...)")
	encoded(t, d, same(integer(5), "0 101"), same(integer(0), "0 000"), same(integer(7), "0 111"),
		aligning(integer(9), "1 - 00000001 00001001"), aligning(integer(8), "1 - 00000001 00001000"), aligning(integer(-1), "1 - 00000001 11111111"),
		aligning(integer(200), "1 - 00000010 00000000 11001000"),
		aligning(integer(least), "1 - 00001000 10000000"+strings.Repeat(zeros, 7)), aligning(integer(greatest), "1 - 00001000 01111111"+strings.Repeat(ones, 7)))
	encoded(t, rows(t, "INTEGER (5, ...)"), same(integer(5), "0"), aligning(integer(4), "1 - 00000001 00000100"))
	encoded(t, rows(t, "INTEGER (0..255, ...)"), aligning(integer(5), "0 - 00000101"))
	// In a gap of the Set, a number is beside it.
	d = rows(t, "INTEGER (0..3 | 6..7 | 12, ...)")
	encoded(t, d, same(integer(3), "0 0011"), same(integer(6), "0 0110"), same(integer(12), "0 1100"),
		aligning(integer(4), "1 - 00000001 00000100"), aligning(integer(5), "1 - 00000001 00000101"), aligning(integer(8), "1 - 00000001 00001000"), aligning(integer(11), "1 - 00000001 00001011"), aligning(integer(13), "1 - 00000001 00001101"))
	encoded(t, rows(t, "INTEGER (1..MAX, ...)"), aligning(integer(300), "0 - 00000010 00000001 00101011"), aligning(integer(1), "0 - 00000001 00000000"), aligning(integer(0), "1 - 00000001 00000000"), aligning(integer(-300), "1 - 00000010 11111110 11010100"))
	encoded(t, rows(t, "INTEGER (MIN..5, ...)"), aligning(integer(5), "0 - 00000001 00000101"), aligning(integer(6), "1 - 00000001 00000110"))
	encoded(t, rows(t, "INTEGER (MIN..MAX, ...)"), aligning(integer(5), "0 - 00000001 00000101"), aligning(integer(least), "0 - 00001000 10000000"+strings.Repeat(zeros, 7)))
	encoded(t, rows(t, "INTEGER (MIN..0 | 5..MAX, ...)"), aligning(integer(5), "0 - 00000001 00000101"), aligning(integer(4), "1 - 00000001 00000100"))
	encoded(t, numbers(true, api.Range{Lo: least, Hi: least}), aligning(integer(least), "0 - 00001000 10000000"+strings.Repeat(zeros, 7)), aligning(integer(least+1), "1 - 00001000 10000000"+strings.Repeat(zeros, 6)+"00000001"))
}

// P16.1: Int with a Set of many ranges.
func TestIntManyRanges(t *testing.T) {
	var l []api.Range
	for k := range 100 {
		l = append(l, api.Range{Lo: 5*k - 200, Hi: 5*k - 200 + k%3})
	}
	for _, ext := range []bool{false, true} {
		d := numbers(ext, l...)
		for n := -202; n < 302; n += 3 {
			want := api.ErrConstraint
			if at := n + 200; ext || n >= -200 && n < 300 && at%5 <= at/5%3 {
				want = api.OK
			}
			if e := hold(t, d, integer(n)); e != want {
				t.Fatal(ext, n, e, want)
			}
		}
	}
}
