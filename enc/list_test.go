package enc_test

import (
	"slices"
	"strings"
	"testing"

	"spandrel/api"
)

// P16.1: SeqOf, whose size bounds are equal, or not, or have no upper one.
func TestList(t *testing.T) {
	yes, no := boolean(1), boolean(0)
	encoded(t, rows(t, "SEQUENCE OF BOOLEAN"), same(list(), "00000000"), same(list(yes, no), "00000010 10"))
	encoded(t, rows(t, "SEQUENCE (SIZE (2)) OF BOOLEAN"), same(list(yes, no), "10"))
	encoded(t, rows(t, "SEQUENCE (SIZE (0)) OF BOOLEAN"), same(list(), ""))
	encoded(t, rows(t, "SEQUENCE (SIZE (1..4)) OF BOOLEAN"), same(list(yes), "00 1"), same(list(no, yes), "01 01"), same(list(no, yes, no, yes), "11 0101"))
	encoded(t, rows(t, "SEQUENCE (SIZE (1..MAX)) OF BOOLEAN"), same(list(no, yes), "00000010 01"))
	encoded(t, rows(t, "SEQUENCE (SIZE (0..65535)) OF BOOLEAN"), same(list(no, yes), "00000000 00000010 01"))
	encoded(t, rows(t, "SEQUENCE (SIZE (0..65536)) OF BOOLEAN"), same(list(no, yes), "00000010 01"))
	encoded(t, rows(t, "SEQUENCE OF NULL"), same(list(null(), null(), null()), "00000011"))
	d := rows(t, "SEQUENCE (SIZE (0..1 | 3)) OF BOOLEAN")
	encoded(t, d, same(list(), "00"), same(list(yes), "01 1"), same(list(yes, no, yes), "11 101"))
	fails(t, d, api.ErrConstraint, list(yes, no), list(yes, no, no, yes), list(yes, no, null()), yes, list(list()))
	// The elements are not aligned, the length is, where it has no narrow bounds.
	d = rows(t, "SEQUENCE { p0 BOOLEAN, p1 SEQUENCE (SIZE (20)) OF BOOLEAN, p2 SEQUENCE (SIZE (0..20)) OF BOOLEAN, p3 SEQUENCE OF BOOLEAN, p4 SEQUENCE (SIZE (1..256)) OF BOOLEAN }")
	encoded(t, d, aligning(all(yes, list(slices.Repeat([]api.Value{yes, no}, 10)...), list(yes, yes), list(no, yes), list(yes)),
		"1 10101010101010101010 00010 11 - 00000010 01 - 00000000 1"))
	// Lists of lists.
	d = rows(t, "SEQUENCE OF SEQUENCE (SIZE (0..3)) OF INTEGER (0..7)")
	encoded(t, d, same(list(list(), list(integer(5)), list(integer(1), integer(2), integer(3))), "00000011 00 01 101 11 001 010 011"))
	d = rows(t, "SEQUENCE OF SEQUENCE OF INTEGER (0..255)")
	encoded(t, d, same(list(list(integer(5), integer(6)), list()), "00000010 00000010 00000101 00000110 00000000"))
}

// P16.1: SeqOf with Ext, in its Set and beside it.
func TestListExt(t *testing.T) {
	yes, no := boolean(1), boolean(0)
	d := rows(t, "SEQUENCE (SIZE (1..2, ...)) OF BOOLEAN")
	encoded(t, d, same(list(yes), "0 0 1"), same(list(no, yes), "0 1 01"), aligning(list(), "1 - 00000000"), aligning(list(yes, yes, no), "1 - 00000011 110"))
	fails(t, d, api.ErrConstraint, list(boolean(2)), list(yes, yes, yes, null()))
	encoded(t, rows(t, "SEQUENCE (SIZE (2, ...)) OF BOOLEAN"), same(list(yes, no), "0 10"), aligning(list(yes), "1 - 00000001 1"), aligning(list(yes, no, yes), "1 - 00000011 101"))
	encoded(t, rows(t, "SEQUENCE (SIZE (0, ...)) OF BOOLEAN"), same(list(), "0"), aligning(list(no), "1 - 00000001 0"))
	encoded(t, rows(t, "SEQUENCE (SIZE (2..MAX, ...)) OF BOOLEAN"), aligning(list(yes, no), "0 - 00000010 10"), aligning(list(yes), "1 - 00000001 1"))
	encoded(t, rows(t, "SEQUENCE (SIZE (0..1 | 3, ...)) OF BOOLEAN"), same(list(yes, no, yes), "0 11 101"), aligning(list(yes, no), "1 - 00000010 10"), aligning(list(no, no, no, yes), "1 - 00000100 0001"))
	encoded(t, rows(t, "SEQUENCE (SIZE (0..65536, ...)) OF NULL"), aligning(list(null()), "0 - 00000001"))
}

// flags is a list of so many BOOLEANs, and the digits of its elements.
func flags(size int) (api.Value, string) {
	l := make([]api.Value, size)
	b := make([]byte, size)
	for k := range l {
		l[k], b[k] = boolean(0), '0'
		if k%3 == 1 || k%7 == 0 {
			l[k], b[k] = boolean(1), '1'
		}
	}
	return list(l...), string(b)
}

// P16.1: SeqOf with a fixed size up to 65535, and above.
func TestLongListFixed(t *testing.T) {
	v, s := flags(65535)
	encoded(t, rows(t, "SEQUENCE (SIZE (65535)) OF BOOLEAN"), same(v, s))
	encoded(t, rows(t, "SEQUENCE (SIZE (65535, ...)) OF BOOLEAN"), same(v, "0"+s))
	encoded(t, rows(t, "SEQUENCE (SIZE (65534..65535)) OF BOOLEAN"), same(v, "1"+s))
	v, s = flags(65536)
	encoded(t, rows(t, "SEQUENCE (SIZE (65536)) OF BOOLEAN"), same(v, "11000100"+s+"00000000"))
	encoded(t, rows(t, "SEQUENCE (SIZE (65536, ...)) OF BOOLEAN"), aligning(v, "0 - 11000100"+s+"00000000"))
}

// P16.1: SeqOf with fragments.
func TestLongList(t *testing.T) {
	open := rows(t, "SEQUENCE OF BOOLEAN")
	v, s := flags(127)
	encoded(t, open, same(v, "01111111"+s))
	v, s = flags(128)
	encoded(t, open, same(v, "10 00000010000000"+s))
	v, s = flags(16383)
	encoded(t, open, same(v, "10 11111111111111"+s))
	v, s = flags(16384)
	encoded(t, open, same(v, "11000001"+s+"00000000"))
	encoded(t, rows(t, "SEQUENCE (SIZE (16384..20000)) OF BOOLEAN"), row{v, "000000000000" + s, zeros + zeros + s})
	encoded(t, rows(t, "SEQUENCE (SIZE (16384..MAX)) OF BOOLEAN"), same(v, "11000001"+s+"00000000"))
	encoded(t, rows(t, "SEQUENCE (SIZE (1, ...)) OF BOOLEAN"), aligning(v, "1 - 11000001"+s+"- 00000000"))
	v, s = flags(16385)
	encoded(t, open, same(v, "11000001"+s[:16384]+"00000001"+s[16384:]))
	v, s = flags(70000)
	fragments := "11000100" + s[:65536] + "10 01000101110000" + s[65536:]
	encoded(t, open, same(v, fragments))
	// The bounds are those of all elements, not of those that are left.
	encoded(t, rows(t, "SEQUENCE (SIZE (70000..80000)) OF BOOLEAN"), same(v, fragments))
	encoded(t, rows(t, "SEQUENCE (SIZE (70000)) OF BOOLEAN"), same(v, fragments))
	encoded(t, rows(t, "SEQUENCE (SIZE (70000..MAX)) OF BOOLEAN"), same(v, fragments))
	encoded(t, rows(t, "SEQUENCE (SIZE (4465 | 70000, ...)) OF BOOLEAN"), aligning(v, "0 -"+fragments))
	fails(t, rows(t, "SEQUENCE (SIZE (70001..80000)) OF BOOLEAN"), api.ErrConstraint, v)
	// Elements of 3 bits each: ahead of a length within, there is an Align.
	d := rows(t, "SEQUENCE OF SEQUENCE (SIZE (3)) OF BOOLEAN")
	l := list(slices.Repeat([]api.Value{list(boolean(1), boolean(0), boolean(1))}, 16384+129)...)
	encoded(t, d, aligning(l, "11000001"+strings.Repeat("101", 16384)+"- 10 00000010000001"+strings.Repeat("101", 129)))
	d = rows(t, "SEQUENCE { p0 BOOLEAN, p1 SEQUENCE OF BOOLEAN, p2 SEQUENCE OF NULL }")
	v, s = flags(16389)
	encoded(t, d, aligning(all(boolean(1), v, list()), "1 - 11000001"+s[:16384]+"- 00000101"+s[16384:]+"- 00000000"))
}

// P16.1: SeqOf as long as it may be, and longer.
func TestLongestList(t *testing.T) {
	for _, text := range []string{"SEQUENCE OF NULL", "SEQUENCE (SIZE (1048576)) OF NULL", "SEQUENCE (SIZE (5, ...)) OF NULL"} {
		d := rows(t, text)
		l := slices.Repeat([]api.Value{null()}, api.MaxLength+1)
		want := strings.Repeat("11000100", 16) + "00000000"
		if d[0].Ext {
			holdOctets(t, d, false, list(l[1:]...), packed("1"+want), api.OK)
			holdOctets(t, d, true, list(l[1:]...), packed("10000000"+want), api.OK)
		} else {
			holdOctets(t, d, false, list(l[1:]...), packed(want), api.OK)
			holdOctets(t, d, true, list(l[1:]...), packed(want), api.OK)
		}
		for _, aligned := range variants {
			holdOctets(t, d, aligned, list(l...), nil, api.ErrConstraint)
		}
	}
}
