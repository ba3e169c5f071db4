package dec_test

import (
	"slices"
	"strings"
	"testing"

	"spandrel/api"
	"spandrel/dec"
)

// P17.1: SeqOf with a fixed size, between two ends, and without an upper one.
func TestList(t *testing.T) {
	yes, no := boolean(1), boolean(0)
	decoded(t, rows(t, "SEQUENCE OF BOOLEAN"), same(list(), zeros), same(list(yes, no), "00000010 10"), wrong(api.ErrForm, "00000010 101"), wrong(api.ErrShort, "00001001 00000000"), wrong(api.ErrForm, "10000000 00000010 10"), wrong(api.ErrForm, "11000000"), wrong(api.ErrForm, "11000101"))
	octetsAre(t, rows(t, "SEQUENCE OF BOOLEAN"), api.ErrShort, api.Value{})
	decoded(t, rows(t, "SEQUENCE (SIZE (2)) OF BOOLEAN"), same(list(yes, no), "10"), wrong(api.ErrForm, "101"))
	octetsAre(t, rows(t, "SEQUENCE (SIZE (2)) OF BOOLEAN"), api.ErrShort, api.Value{})
	decoded(t, rows(t, "SEQUENCE (SIZE (0)) OF BOOLEAN"), same(list(), ""), wrong(api.ErrForm, "1"))
	decoded(t, rows(t, "SEQUENCE (SIZE (1..4)) OF BOOLEAN"), same(list(yes), "00 1"), same(list(no, yes), "01 01"), same(list(no, yes, no, yes), "11 0101"))
	decoded(t, rows(t, "SEQUENCE (SIZE (1..3)) OF BOOLEAN"), same(list(no, yes, no), "10 010"), wrong(api.ErrConstraint, "11 0101"))
	decoded(t, rows(t, "SEQUENCE (SIZE (1..MAX)) OF BOOLEAN"), same(list(no, yes), "00000010 01"), wrong(api.ErrConstraint, zeros))
	decoded(t, rows(t, "SEQUENCE (SIZE (0..65535)) OF BOOLEAN"), same(list(no, yes), "00000000 00000010 01"))
	decoded(t, rows(t, "SEQUENCE (SIZE (0..65536)) OF BOOLEAN"), same(list(no, yes), "00000010 01"))
	// Elements of no bits.
	decoded(t, rows(t, "SEQUENCE OF NULL"), same(list(null(), null(), null()), "00000011"))
	decoded(t, rows(t, "SEQUENCE (SIZE (3)) OF NULL"), same(list(null(), null(), null()), ""))
	decoded(t, rows(t, "SEQUENCE (SIZE (0..3)) OF SEQUENCE { a ENUMERATED { x }, b NULL }"), same(list(seq("a b", item("x"), null()), seq("a b", item("x"), null())), "10"))
	// After a bit 0, or without one, a size in a gap of the Set.
	decoded(t, rows(t, "SEQUENCE (SIZE (0..1 | 3)) OF BOOLEAN"), same(list(), "00"), same(list(yes), "01 1"), wrong(api.ErrConstraint, "10 11"), same(list(yes, no, yes), "11 101"))
	decoded(t, rows(t, "SEQUENCE (SIZE (0..1 | 3..MAX)) OF BOOLEAN"), wrong(api.ErrConstraint, "00000010 11"), same(list(yes, no, yes), "00000011 101"))
	// The elements are not aligned, the length is, where it has no narrow bounds.
	d := rows(t, "SEQUENCE { p0 BOOLEAN, p1 SEQUENCE (SIZE (20)) OF BOOLEAN, p2 SEQUENCE (SIZE (0..20)) OF BOOLEAN, p3 SEQUENCE OF BOOLEAN, p4 SEQUENCE (SIZE (1..256)) OF BOOLEAN }")
	decoded(t, d, aligning(all(yes, list(slices.Repeat([]api.Value{yes, no}, 10)...), list(yes, yes), list(no, yes), list(yes)),
		"1 10101010101010101010 00010 11 - 00000010 01 - 00000000 1"))
	// Lists of lists.
	d = rows(t, "SEQUENCE OF SEQUENCE (SIZE (0..3)) OF INTEGER (0..6)")
	decoded(t, d, same(list(list(), list(integer(5)), list(integer(1), integer(2), integer(3))), "00000011 00 01 101 11 001 010 011"), wrong(api.ErrConstraint, "00000011 00 01 111 11 001 010 011"))
	// An element that is wrong is told ahead of a size that is, and of an end.
	decoded(t, rows(t, "SEQUENCE (SIZE (0 | 2)) OF ENUMERATED { a, ... }"), wrong(api.ErrUnknown, "01 1 0000000 1"), wrong(api.ErrConstraint, "01 0 0000001"), same(list(item("a"), item("a")), "10 00"), wrong(api.ErrUnknown, "10 1 0000000 1"))
}

// P17.1: SeqOf with Ext: after a bit 1, a size in the Set, at both ends of it, and
// beside it.
func TestListExt(t *testing.T) {
	yes, no := boolean(1), boolean(0)
	decoded(t, rows(t, "SEQUENCE (SIZE (1..3, ...)) OF BOOLEAN"), same(list(yes), "0 00 1"), same(list(no, yes), "0 01 01"), aligning(list(), "1 - 00000000"), aligning(list(yes, yes, no, yes), "1 - 00000100 1101"),
		wrong(api.ErrForm, "1 - 00000001 1"), wrong(api.ErrForm, "1 - 00000010 11"), wrong(api.ErrForm, "1 - 00000011 111"), wrong(api.ErrConstraint, "0 11 1111"))
	decoded(t, rows(t, "SEQUENCE (SIZE (2, ...)) OF BOOLEAN"), same(list(yes, no), "0 10"), aligning(list(yes), "1 - 00000001 1"), aligning(list(yes, no, yes), "1 - 00000011 101"), wrong(api.ErrForm, "1 - 00000010 11"))
	decoded(t, rows(t, "SEQUENCE (SIZE (0, ...)) OF BOOLEAN"), same(list(), "0"), aligning(list(no), "1 - 00000001 0"), wrong(api.ErrForm, "1 - 00000000"))
	decoded(t, rows(t, "SEQUENCE (SIZE (2..MAX, ...)) OF BOOLEAN"), aligning(list(yes, no), "0 - 00000010 10"), aligning(list(yes), "1 - 00000001 1"), wrong(api.ErrConstraint, "0 - 00000001 1"), wrong(api.ErrForm, "1 - 00000010 11"))
	decoded(t, rows(t, "SEQUENCE (SIZE (0..1 | 3, ...)) OF BOOLEAN"), same(list(yes, no, yes), "0 11 101"), aligning(list(yes, no), "1 - 00000010 10"), wrong(api.ErrConstraint, "0 10 10"), wrong(api.ErrForm, "1 - 00000011 101"))
	decoded(t, rows(t, "SEQUENCE (SIZE (0..65536, ...)) OF NULL"), aligning(list(null()), "0 - 00000001"), wrong(api.ErrForm, "1 - 00000001"))
	// After all units have been read: what is wrong in one of them is told first.
	decoded(t, rows(t, "SEQUENCE (SIZE (2, ...)) OF INTEGER (0..2)"), wrong(api.ErrConstraint, "1 - 00000010 0011"), wrong(api.ErrForm, "1 - 00000010 0010"), wrong(api.ErrConstraint, "1 - 00000011 001011"))
	octetsAre(t, rows(t, "SEQUENCE (SIZE (2, ...)) OF BOOLEAN"), api.ErrShort, api.Value{})
}

// flags is a list of so many BOOLEANs, and the digits of its elements.
func flags(size int) (api.Value, string) {
	l := make([]api.Value, size)
	b := make([]byte, size)
	for k := range l {
		l[k], b[k] = boolean(0), '0'
		if k%3 == 1 || k%7 == 0 {
			l[k], b[k] = boolean(1), '1'
		}
	}
	return list(l...), string(b)
}

// P17.1: SeqOf with a fixed size up to 65535, and above.
func TestLongListFixed(t *testing.T) {
	t.Parallel()
	v, s := flags(65535)
	brief(t, rows(t, "SEQUENCE (SIZE (65535)) OF BOOLEAN"), same(v, s), wrong(api.ErrShort, s[:65528]), wrong(api.ErrForm, s+"1"))
	brief(t, rows(t, "SEQUENCE (SIZE (65535, ...)) OF BOOLEAN"), same(v, "0"+s), wrong(api.ErrForm, "1 - 10 11111111111111"+s[:16383]+"1"))
	brief(t, rows(t, "SEQUENCE (SIZE (65534..65535)) OF BOOLEAN"), same(v, "1"+s))
	v, s = flags(65536)
	d := rows(t, "SEQUENCE (SIZE (65536)) OF BOOLEAN")
	brief(t, d, same(v, "11000100"+s+"00000000"), wrong(api.ErrConstraint, "11000100"+s+"00000001 1"), wrong(api.ErrConstraint, "00000001 1"), wrong(api.ErrShort, "11000100"+s))
	brief(t, rows(t, "SEQUENCE (SIZE (65536, ...)) OF BOOLEAN"), aligning(v, "0 - 11000100"+s+"00000000"), wrong(api.ErrForm, "1 - 11000100"+s+"00000000"))
}

// P17.1: SeqOf with fragments.
func TestLongList(t *testing.T) {
	t.Parallel()
	open := rows(t, "SEQUENCE OF BOOLEAN")
	v, s := flags(127)
	brief(t, open, same(v, "01111111"+s), wrong(api.ErrForm, "10 00000001111111"+s))
	v, s = flags(128)
	brief(t, open, same(v, "10 00000010000000"+s))
	v, s = flags(16383)
	brief(t, open, same(v, "10 11111111111111"+s))
	v, s = flags(16384)
	brief(t, open, same(v, "11000001"+s+"00000000"))
	brief(t, rows(t, "SEQUENCE (SIZE (16384..20000)) OF BOOLEAN"), apart(v, "000000000000"+s, zeros+zeros+s))
	brief(t, rows(t, "SEQUENCE (SIZE (16384..MAX)) OF BOOLEAN"), same(v, "11000001"+s+"00000000"))
	brief(t, rows(t, "SEQUENCE (SIZE (16385..MAX)) OF BOOLEAN"), wrong(api.ErrConstraint, "11000001"+s+"00000000"))
	brief(t, rows(t, "SEQUENCE (SIZE (1, ...)) OF BOOLEAN"), aligning(v, "1 - 11000001"+s+"- 00000000"))
	brief(t, rows(t, "SEQUENCE (SIZE (16384, ...)) OF BOOLEAN"), aligning(v, "0"+s), wrong(api.ErrForm, "1 - 11000001"+s+"- 00000000"))
	v, s = flags(16385)
	brief(t, open, same(v, "11000001"+s[:16384]+"00000001"+s[16384:]))
	v, s = flags(70000)
	fragments := "11000100" + s[:65536] + "10 01000101110000" + s[65536:]
	brief(t, open, same(v, fragments))
	brief(t, rows(t, "SEQUENCE (SIZE (70000..80000)) OF BOOLEAN"), same(v, fragments))
	brief(t, rows(t, "SEQUENCE (SIZE (70000)) OF BOOLEAN"), same(v, fragments))
	brief(t, rows(t, "SEQUENCE (SIZE (70000..MAX)) OF BOOLEAN"), same(v, fragments))
	brief(t, rows(t, "SEQUENCE (SIZE (4465 | 70000, ...)) OF BOOLEAN"), aligning(v, "0 -"+fragments), wrong(api.ErrForm, "1 -"+fragments))
	brief(t, rows(t, "SEQUENCE (SIZE (70001..80000)) OF BOOLEAN"), wrong(api.ErrConstraint, fragments))
	brief(t, rows(t, "SEQUENCE (SIZE (65536..69999)) OF BOOLEAN"), wrong(api.ErrConstraint, fragments))
	// A fragment behind one that is not as great as it may be, be its elements there
	// or not.
	v, s = flags(49152 + 16384)
	brief(t, open, wrong(api.ErrForm, "11000011"+s[:49152]+"11000001"+s[49152:]+zeros), wrong(api.ErrForm, "11000011"+s[:49152]+"11000001"), wrong(api.ErrForm, "11000001"+s[:16384]+"11000100"))
	// What is wrong in an element of it is told after that.
	d := rows(t, "SEQUENCE OF INTEGER (0..2)")
	s = strings.Repeat("10", 16384)
	brief(t, d, wrong(api.ErrForm, "11000001"+s+"11000001 11"), wrong(api.ErrConstraint, "11000001"+s[2:]+"11 11000001"), wrong(api.ErrConstraint, "11000001"+s+"00000001 11"))
	// Elements of 3 bits each: ahead of a length within, there is an Align.
	d = rows(t, "SEQUENCE OF SEQUENCE (SIZE (3)) OF BOOLEAN")
	l := list(slices.Repeat([]api.Value{list(boolean(1), boolean(0), boolean(1))}, 16384+129)...)
	brief(t, d, aligning(l, "11000001"+strings.Repeat("101", 16384)+"- 10 00000010000001"+strings.Repeat("101", 129)))
	d = rows(t, "SEQUENCE { p0 BOOLEAN, p1 SEQUENCE OF BOOLEAN, p2 SEQUENCE OF NULL }")
	v, s = flags(16389)
	brief(t, d, aligning(all(boolean(1), v, list()), "1 - 11000001"+s[:16384]+"- 00000101"+s[16384:]+"- 00000000"))
}

// P17.1: SeqOf as long as it may be, and longer.
func TestLongestList(t *testing.T) {
	t.Parallel()
	l := list(slices.Repeat([]api.Value{null()}, api.MaxLength)...)
	most := strings.Repeat("11000100", 16)
	more := wrong(api.ErrLarge, most+"00000001")
	brief(t, rows(t, "SEQUENCE OF NULL"), same(l, most+zeros), more, wrong(api.ErrLarge, most+"11000001"), wrong(api.ErrShort, most))
	// Both errors, of which one comes first.
	brief(t, rows(t, "SEQUENCE OF NULL"), wrong(api.ErrForm, most[8:]+"11000011 11000100"))
	brief(t, rows(t, "SEQUENCE (SIZE (1048576)) OF NULL"), same(l, most+zeros), more)
	brief(t, rows(t, "SEQUENCE (SIZE (5, ...)) OF NULL"), aligning(l, "1 -"+most+zeros), wrong(api.ErrLarge, "1 -"+most+"00000001"))
	brief(t, rows(t, "SEQUENCE (SIZE (1048577)) OF NULL"), wrong(api.ErrConstraint, most+zeros), more)
	brief(t, rows(t, "SEQUENCE (SIZE (9223372036854775807)) OF NULL"), wrong(api.ErrConstraint, most+zeros))
	// That there are too many is told ahead of what is wrong in one of them.
	d := rows(t, "SEQUENCE OF INTEGER (0..2)")
	s := strings.Repeat("11000100"+strings.Repeat("10", 65536), 16)
	brief(t, d, wrong(api.ErrLarge, s+"00000001 11"))
}

// R1: long lists take no more time than it takes to go through them, be there as
// many ranges, parts and additions as there may be.
func TestLong(t *testing.T) {
	t.Parallel()
	d := []api.Desc{{Kind: api.SeqOf, Set: []api.Range{{Hi: greatest}}, Hi: greatest, Elem: 1}, {Kind: api.Int}}
	for k := range 1 << 17 {
		d[1].Set = append(d[1].Set, api.Range{Lo: 3 * k, Hi: 3 * k})
	}
	d[1].Hi = 3<<17 - 3
	for _, aligned := range variants {
		var text strings.Builder
		for range 16 {
			text.WriteString("11000100")
			for k := range 65536 {
				s := digits(3*k, 19)
				if aligned {
					n := 3 * k
					size := 1 + min(n/256, 1) + min(n/65536, 1)
					for s = digits(size-1, 2); (text.Len()+len(s))%8 > 0; {
						s += "0"
					}
					s += digits(n, 8*size)
				}
				text.WriteString(s)
			}
			for aligned && text.Len()%8 > 0 {
				text.WriteByte('0')
			}
		}
		text.WriteString(zeros)
		v, e := dec.Decode(d, aligned, packed(text.String()))
		if e != api.OK || len(v.L) != api.MaxLength || told(v.L[65535+7]) != told(integer(18)) {
			t.Error(aligned, e, len(v.L))
		}
	}
	d = rows(t, "SEQUENCE OF SEQUENCE { ..., a NULL }")
	most := strings.Repeat("11000100"+strings.Repeat("1 0 000000 1 00000001 00000000", 65536), 16) + zeros
	if v, e := dec.Decode(d, false, packed(spelled(most))); e != api.OK || len(v.L) != api.MaxLength {
		t.Error(e, len(v.L))
	}
}
