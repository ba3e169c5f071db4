package dec_test

import (
	"fmt"
	"strings"
	"testing"

	"spandrel/api"
	"spandrel/dec"
)

// P17.1: Seq with Ext, of whose Adds none, one, some and all are encoded.
func TestAdds(t *testing.T) {
	decoded(t, rows(t, "SEQUENCE { ... }"), same(seq(""), "0"))
	decoded(t, rows(t, "SEQUENCE { a BOOLEAN, ... }"), same(seq("a", boolean(1)), "0 1"))
	decoded(t, rows(t, "SEQUENCE { a BOOLEAN OPTIONAL, b NULL OPTIONAL, ... }"), same(seq("a", boolean(1)), "0 10 1"))
	d := rows(t, "SEQUENCE { a NULL, ..., b BOOLEAN, c INTEGER DEFAULT 5 }")
	decoded(t, d, same(seq("a c", null(), integer(5)), "0"),
		aligning(seq("a b c", null(), boolean(1), integer(5)), "1 0 000001 10 - 00000001 10000000"),
		aligning(seq("a c", null(), integer(6)), "1 0 000001 01 - 00000010 00000001 00000110"),
		aligning(seq("a b c", null(), boolean(0), integer(-1)), "1 0 000001 11 - 00000001 00000000 00000010 00000001 11111111"))
	// A part that is told and the same as its Def, and none that is told.
	decoded(t, d, wrong(api.ErrForm, "1 0 000001 01 - 00000010 00000001 00000101"), wrong(api.ErrForm, "1 0 000001 11 - 00000001 00000000 00000010 00000001 00000101"), wrong(api.ErrForm, "1 0 000001 00"), wrong(api.ErrForm, "1 0 000000 0"), wrong(api.ErrForm, "1 0 111111"+strings.Repeat("0", 64)))
	octetsAre(t, d, api.ErrShort, api.Value{})
	octetsAre(t, d, api.ErrShort, api.Value{}, 128|63)
	octetsAre(t, d, api.ErrShort, api.Value{}, 129)
	octetsAre(t, d, api.ErrShort, api.Value{}, 129, 128)
	// The bits of Parts are behind the first bit, their values ahead of the Adds.
	d = rows(t, "SEQUENCE { a BOOLEAN OPTIONAL, b BOOLEAN DEFAULT TRUE, ..., c NULL, d BOOLEAN }")
	decoded(t, d, same(seq("a b", boolean(1), boolean(1)), "0 10 1"), aligning(seq("a b d", boolean(1), boolean(1), boolean(1)), "1 10 1 0 000001 01 - 00000001 10000000"),
		aligning(seq("b c", boolean(0), null()), "1 01 0 0 000001 10 - 00000001 00000000"), aligning(seq("b c d", boolean(1), null(), boolean(0)), "1 00 0 000001 11 - 00000001 00000000 00000001 00000000"), wrong(api.ErrForm, "1 01 1 0 000001 10 - 00000001 00000000"))
	// Opt says nothing of an addition.
	decoded(t, rows(t, "SEQUENCE { ..., a NULL OPTIONAL, b NULL }"), same(seq(""), "0"), aligning(seq("a", null()), "1 0 000001 10 - 00000001 00000000"), aligning(seq("a b", null(), null()), "1 0 000001 11 - 00000001 00000000 00000001 00000000"))
	decoded(t, rows(t, "SEQUENCE { ..., a SEQUENCE { } }"), aligning(seq("a", seq("")), "1 0 000000 1 - 00000001 00000000"))
	// An addition's own stream is aligned where it begins.
	d = rows(t, "SEQUENCE { ..., b SEQUENCE { p0 BOOLEAN, p1 INTEGER (0..255) }, c NULL }")
	decoded(t, d, apart(seq("b", all(boolean(1), integer(5))), "1 0 000001 10 00000010 10000010 10000000", "1 0 000001 10 - 00000010 10000000 00000101"))
	// Additions of additions.
	d = rows(t, "A ::= SEQUENCE { a BOOLEAN DEFAULT TRUE, ..., b A }")
	decoded(t, d, apart(seq("a b", boolean(1), seq("a b", boolean(1), seq("a", boolean(0)))), "1 0 0000000 1 00000100 1 0 0000000 1 00000001 01000000 000000", "1 0 0000000 1 - 00000100 1 0 0000000 1 - 00000001 01000000"))
	// After a value with additions, the next one follows at once.
	d = rows(t, "SEQUENCE OF SEQUENCE { ..., b NULL }")
	decoded(t, d, aligning(list(seq("b", null()), seq(""), seq("b", null())), "00000011 1 0 000000 1 - 00000001 00000000 0 1 0 000000 1 - 00000001 00000000"))
	// The first of two that are wrong tells.
	d = rows(t, "SEQUENCE { a INTEGER (0..2), ..., b INTEGER (0..2), c ENUMERATED { x, ... } }")
	decoded(t, d, wrong(api.ErrConstraint, "1 11 0 000001 00"), wrong(api.ErrForm, "1 10 0 000001 00"), wrong(api.ErrConstraint, "1 10 0 000001 11 - 00000001 11000000 00000010 10000000 00000000"), wrong(api.ErrUnknown, "1 10 0 000001 11 - 00000001 10000000 00000001 10000000 1"),
		wrong(api.ErrConstraint, "1 10 0 000001 11 - 00000001 11000000"), wrong(api.ErrShort, "1 10 0 000001 11 - 00000001 10000000"), wrong(api.ErrForm, "1 10 0 000001 11 - 00000001 10000001 00000001 10000000"))
}

// headOf is the number of additions, in the form that Encode writes.
func headOf(n int) string {
	switch {
	case n > 127:
		return fmt.Sprintf("1 - 10 %014b", n)
	case n > 64:
		return fmt.Sprintf("1 - %08b", n)
	}
	return fmt.Sprintf("0 %06b", n-1)
}

// P17.1: the number of additions in both forms.
func TestAddsMany(t *testing.T) {
	for _, n := range []int{1, 2, 63, 64, 65, 66, 127, 128, 129, 256} {
		d := rows(t, "SEQUENCE { ..., "+numbered("m", n, " BOOLEAN")+" }")
		head := "1 " + headOf(n)
		decoded(t, d, same(seq(""), "0"), wrong(api.ErrForm, head+strings.Repeat("0", n)))
		whole, behind := seq(""), ""
		for k := range n {
			name := fmt.Sprint("m", k)
			whole.Names, whole.L = append(whole.Names, name), append(whole.L, boolean(k%2))
			behind += fmt.Sprintf("00000001 %d0000000", k%2)
			if k < 2 || k > n-3 || k == 63 || k == 64 {
				decoded(t, d, aligning(seq(name, boolean(1)), head+strings.Repeat("0", k)+"1"+strings.Repeat("0", n-1-k)+"- 00000001 10000000"))
			}
		}
		decoded(t, d, aligning(whole, head+strings.Repeat("1", n)+"-"+behind))
		// A number below 65 in the longer form, and forms of a length that are none.
		for _, count := range []string{"00000000", "00000001", "00111111", "01000000", "10000000 01000001", "11000001", "11000100", "11000000", "11000101"} {
			decoded(t, d, wrong(api.ErrForm, "1 1 -"+count+strings.Repeat("1", 70)+"-"+strings.Repeat("00000001 10000000", 70)))
		}
	}
	// In the aligned variant, ones ahead of the length.
	d := rows(t, "SEQUENCE { ... }")
	b := packed(spelled("1 1 000001 01000001 1" + strings.Repeat("0", 64) + "- 00000001 10000000"))
	if v, e := hold(t, d, true, b); e != api.ErrForm {
		t.Error(shown(v), e)
	}
	octetsAre(t, d, api.ErrShort, api.Value{}, 0b11000000)
}

// P17.1: additions whose index is no index of Adds are skipped, be there what there
// may in them.
func TestUnknownAdds(t *testing.T) {
	d := rows(t, "SEQUENCE { a NULL, ..., b BOOLEAN }")
	value, none := seq("a b", null(), boolean(1)), seq("a", null())
	for _, octets := range []string{"00000000", "00000001 00000000", "00000001 11111111", "00000011 10101010 11111111 00000000", "10 00000010000000" + strings.Repeat(ones, 128)} {
		decoded(t, d, aligning(value, "1 0 000001 11 - 00000001 10000000"+octets), aligning(none, "1 0 000001 01 -"+octets), aligning(value, "1 0 000010 101 - 00000001 10000000"+octets),
			aligning(none, "1 0 000010 011 -"+octets+octets), aligning(value, "1 0 111111 1"+strings.Repeat("0", 62)+"1 - 00000001 10000000"+octets),
			aligning(value, "1"+headOf(65)+"1"+strings.Repeat("0", 63)+"1 - 00000001 10000000"+octets), aligning(none, "1"+headOf(300)+strings.Repeat("0", 299)+"1 -"+octets))
		decoded(t, rows(t, "SEQUENCE { a NULL, ... }"), aligning(none, "1 0 000000 1 -"+octets), aligning(none, "1 0 000001 11 -"+octets+octets))
	}
	// All their bits may be 0, where one of another addition is 1.
	decoded(t, d, aligning(value, "1 0 000010 100 - 00000001 10000000"), aligning(value, "1"+headOf(65)+"1"+strings.Repeat("0", 64)+"- 00000001 10000000"))
	// What is wrong with their octets is told.
	decoded(t, d, wrong(api.ErrForm, "1 0 000001 01 - 11000000"), wrong(api.ErrForm, "1 0 000001 01 - 10000000 00000001 00000000"), wrong(api.ErrShort, "1 0 000001 01 - 00000010 00000000"), wrong(api.ErrForm, "1 0 000001 01 - 00000001 00000000 00000000"))
	// An older type has fewer additions.
	d = rows(t, "SEQUENCE { ..., a NULL, b BOOLEAN DEFAULT TRUE, c NULL }")
	decoded(t, d, aligning(seq("a b", null(), boolean(1)), "1 0 000000 1 - 00000001 00000000"), aligning(seq("b", boolean(0)), "1 0 000001 01 - 00000001 00000000"))
	// Within a part, an element, an alternative, and an addition that is known.
	x := "1 0 000001 01 - 00000010 11111111 11111111"
	const text = "SEQUENCE { ..., b BOOLEAN }"
	decoded(t, rows(t, "SEQUENCE { a "+text+", c BOOLEAN }"), aligning(seq("a c", seq(""), boolean(1)), x+"1"))
	decoded(t, rows(t, "SEQUENCE OF "+text), aligning(list(seq(""), seq(""), seq("b", boolean(0))), "00000011"+x+"0 1 0 000000 1 - 00000001 00000000"))
	decoded(t, rows(t, "CHOICE { a "+text+", c BOOLEAN }"), aligning(alternative("a", seq("")), "0"+x))
	decoded(t, rows(t, "SEQUENCE { a NULL, ..., c "+text+" }"), apart(seq("a c", null(), seq("")), "1 0 000000 1 00000101 1 0 000001 01 00000010 11111111 11111111 000000", "1 0 000000 1 - 00000101 1 0 000001 01 - 00000010 11111111 11111111"))
	decoded(t, rows(t, "CHOICE { a NULL, ..., c "+text+" }"), apart(alternative("c", seq("")), "1 0 000000 00000101 1 0 000001 01 00000010 11111111 11111111 000000", "1 0 000000 - 00000101 1 0 000001 01 - 00000010 11111111 11111111"))
}

// P17.1: additions with fragments, and as long as they may be.
func TestLongAdds(t *testing.T) {
	for _, x := range []struct {
		text, head string
		value      func(api.Value) api.Value
	}{
		{"SEQUENCE { ..., a SEQUENCE (SIZE (1..MAX)) OF BIT STRING (SIZE (8)) }", "1 0 000000 1 -", func(v api.Value) api.Value { return seq("a", v) }},
		{"CHOICE { b NULL, ..., a SEQUENCE (SIZE (1..MAX)) OF BIT STRING (SIZE (8)) }", "1 0 000000 -", func(v api.Value) api.Value { return alternative("a", v) }},
	} {
		d := rows(t, x.text)
		var l []api.Value
		for k := range 16384 {
			l = append(l, bits(digits(k%256, 8)))
		}
		octets := strings.Repeat(eight(), 64)
		// 16383 octets, with the length of the list, and 16384.
		brief(t, d, aligning(x.value(list(l[:16381]...)), x.head+"10 11111111111111 10 11111111111101"+octets[:8*16381]))
		brief(t, d, aligning(x.value(list(l[:16382]...)), x.head+"11000001 10 11111111111110"+octets[:8*16382]+"- 00000000"))
		brief(t, d, aligning(x.value(list(l[:16383]...)), x.head+"11000001 10 11111111111111"+octets[:8*16382]+"- 00000001"+octets[8*16382:8*16383]))
		// A fragment behind one that is not as great as it may be.
		brief(t, d, wrong(api.ErrForm, x.head+"11000001 10 11111111111110"+octets[:8*16382]+"- 11000001"), wrong(api.ErrShort, x.head+"11000001 10 11111111111110"+octets[:8*16381]))
	}
	// 2^20 octets, and one more, as they are skipped.
	d := rows(t, "SEQUENCE { a NULL, ... }")
	most := strings.Repeat("11000100"+strings.Repeat(eight(), 256), 16)
	for _, aligned := range variants {
		for behind, want := range map[string]api.Errno{"00000000": api.OK, "00000001 00000000": api.ErrLarge, "": api.ErrShort, "11000001": api.ErrLarge} {
			text := "1 0 000000 1" + most + behind
			if aligned {
				text = "1 0 000000 1 -" + most + behind
			}
			if v, e := dec.Decode(d, aligned, packed(spelled(text))); e != want || e == api.OK && told(v) != told(seq("a", null())) {
				t.Error(aligned, behind, shown(v), e)
			}
		}
	}
}

// eight is all octets, one behind the other.
func eight() string {
	var b strings.Builder
	for c := range 256 {
		b.WriteString(digits(c, 8))
	}
	return b.String()
}
