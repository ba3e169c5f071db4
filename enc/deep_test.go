package enc_test

import (
	"slices"
	"strings"
	"testing"

	"spandrel/api"
	"spandrel/enc"
)

// nested is a type that contains itself, and how a value of it becomes part of
// another one.
type nested struct {
	text string
	last api.Value // a value of depth 1
	link func(api.Value) api.Value
}

// nestings are as a list, as an alternative, and as a part, of Parts and of Adds.
func nestings() []nested {
	asPart := func(v api.Value) api.Value { return seq("a", v) }
	return []nested{
		{"SEQUENCE OF A", list(), func(v api.Value) api.Value { return list(v) }},
		{"SEQUENCE OF A", list(), func(v api.Value) api.Value { return list(list(), v, list()) }},
		{"CHOICE { b NULL, a A }", alternative("b", null()), func(v api.Value) api.Value { return alternative("a", v) }},
		{"CHOICE { b NULL, ..., a A }", alternative("b", null()), func(v api.Value) api.Value { return alternative("a", v) }},
		{"SEQUENCE { a A OPTIONAL }", seq(""), asPart},
		{"SEQUENCE { ..., a A }", seq(""), asPart},
		{"SEQUENCE { b NULL, a A OPTIONAL, c BOOLEAN DEFAULT TRUE }", seq("b", null()), func(v api.Value) api.Value { return seq("b a c", null(), v, boolean(0)) }},
	}
}

// levels is a value that is nested so many levels deep.
func (x nested) levels(count int) api.Value {
	v := x.last
	for range count - 1 {
		v = x.link(v)
	}
	return v
}

// P16.1: a value nested 40 deep, and one nested 41 deep.
func TestDeep(t *testing.T) {
	for _, x := range nestings() {
		d := rows(t, "A ::= "+x.text)
		for _, count := range []int{1, 2, 3, 39, 40} {
			if e := hold(t, d, x.levels(count)); e != api.OK {
				t.Errorf("%s, %d: %d", x.text, count, e)
			}
		}
		for _, count := range []int{41, 42, 80, 1000} {
			fails(t, d, api.ErrDeep, x.levels(count))
		}
		// R1: as deep as the document asks for.
		for _, aligned := range variants {
			if b, e := enc.Encode(d, aligned, x.levels(1<<16)); e != api.ErrDeep || b != nil {
				t.Error(x.text, e)
			}
		}
	}
	// Forty streams, each within the one before.
	d := rows(t, "A ::= SEQUENCE { ..., a A }")
	v := nested{"", seq(""), func(v api.Value) api.Value { return seq("a", v) }}.levels(40)
	want := "0 0000000"
	for size := 1; size < 1+3*39; size += 3 {
		want = "1 0000000 1 -" + digits(size, 8) + want
	}
	b, e := enc.Encode(d, true, v)
	if e != api.OK || !slices.Equal(b, packed(spelled(want))) {
		t.Errorf("%v, %d, not %v", b, e, packed(spelled(want)))
	}
}

// P16.1: each error of member.Check, and of two at once the first that is named.
func TestErrors(t *testing.T) {
	right := func() []api.Desc { return rows(t, "A ::= SEQUENCE { a A OPTIONAL, b BOOLEAN DEFAULT TRUE }") }
	x := nested{"", seq(""), func(v api.Value) api.Value { return seq("a", v) }}
	beside := nested{"", seq("c", null()), x.link}
	fails(t, right(), api.ErrDeep, x.levels(41), beside.levels(41), seq("a c", x.levels(40), null()))
	fails(t, right(), api.ErrConstraint, beside.levels(40), beside.levels(1), seq("b", boolean(2)), seq("b a", boolean(0), seq("")), null(), api.Value{}, api.Value{Kind: -1})
	wrong := [][]api.Desc{nil, {}, right(), right(), right(), slices.Repeat([]api.Desc{{Kind: api.Null}}, 4097)}
	wrong[2][0].Parts[1].Def[0].N = 2
	wrong[3][0].Parts[0].T = 2
	wrong[4][1].Kind = api.Ref
	for _, d := range wrong {
		fails(t, d, api.ErrArg, x.levels(1), x.levels(40), x.levels(41), beside.levels(40), beside.levels(41), null(), api.Value{})
	}
}

// octetsIn is how a string of octets stands in a value, as an addition or within
// one.
type octetsIn struct {
	text  string
	value func(octets api.Value) api.Value
	ahead int // how many octets of the addition there are beside the string's
}

// additions are as an addition of a Seq and of a Choice, and below them.
func additions() []octetsIn {
	asPart := func(v api.Value) api.Value { return seq("a", v) }
	asAlternative := func(v api.Value) api.Value { return alternative("a", v) }
	return []octetsIn{
		{"SEQUENCE { ..., a OCTET STRING }", asPart, 0},
		{"CHOICE { b NULL, ..., a OCTET STRING }", asAlternative, 0},
		{"SEQUENCE OF SEQUENCE { ..., a OCTET STRING }", func(v api.Value) api.Value { return list(seq(""), asPart(v), seq("")) }, 0},
		{"SEQUENCE (SIZE (1)) OF CHOICE { b NULL, ..., a OCTET STRING }", func(v api.Value) api.Value { return list(asAlternative(v)) }, 0},
		{"CHOICE { b SEQUENCE { ..., a OCTET STRING } }", func(v api.Value) api.Value { return alternative("b", asPart(v)) }, 0},
		{"SEQUENCE { b NULL, c SEQUENCE { ..., a OCTET STRING } OPTIONAL, d NULL }", func(v api.Value) api.Value { return seq("b c d", null(), asPart(v), null()) }, 0},
		{"SEQUENCE { ..., a SEQUENCE { p0 INTEGER (0..255), p1 OCTET STRING } }", func(v api.Value) api.Value { return asPart(all(integer(1), v)) }, 1},
		{"SEQUENCE { ..., b NULL, a SEQUENCE (SIZE (2)) OF OCTET STRING }", func(v api.Value) api.Value { return seq("b a", null(), list(octets(""), v)) }, 1},
	}
}

// P16.1: additions whose separate encodings have 16384 octets and more.
func TestLongAdditions(t *testing.T) {
	for _, x := range additions() {
		d := rows(t, x.text)
		for _, size := range []int{124, 125, 126, 127, 128, 16379, 16380, 16381, 16382, 16384, 65530, 70000} {
			holdLarge(t, d, x.value(long(api.Octets, size).value), api.OK)
		}
		if e := hold(t, d, x.value(long(api.Octets, 16384).value)); e != api.OK {
			t.Error(x.text, e)
		}
	}
	// 16382 octets behind a length of 2.
	x := long(api.Octets, 16382)
	encoded(t, rows(t, "CHOICE { b NULL, ..., a OCTET STRING }"), same(alternative("a", x.value), "1 0 000000 11000001 10 11111111111110"+x.unaligned+"00000000"))
	x = long(api.Octets, 16381)
	encoded(t, rows(t, "CHOICE { b NULL, ..., a OCTET STRING }"), same(alternative("a", x.value), "1 0 000000 10 11111111111111 10 11111111111101"+x.unaligned))
	encoded(t, rows(t, "SEQUENCE { ..., a OCTET STRING }"), aligning(seq("a", x.value), "1 0 000000 1 - 10 11111111111111 10 11111111111101"+x.unaligned))
	// 65536 octets and their own fragments.
	x = long(api.Octets, 65536)
	encoded(t, rows(t, "CHOICE { b NULL, ..., a OCTET STRING }"), same(alternative("a", x.value), "1 0 000000 11000100 11000100"+x.unaligned[:8*65535]+"00000010"+x.unaligned[8*65535:]+"00000000"))
	// Octets without a length of their own.
	l := slices.Repeat([]api.Value{octets("\x07")}, 16384)
	sevens := strings.Repeat("00000111", 16384)
	encoded(t, rows(t, "SEQUENCE { ..., a SEQUENCE (SIZE (16384)) OF OCTET STRING (SIZE (1)) }"), aligning(seq("a", list(l...)), "1 0 000000 1 - 11000001"+sevens+"00000000"))
	encoded(t, rows(t, "SEQUENCE { ..., a SEQUENCE (SIZE (16383)) OF OCTET STRING (SIZE (1)) }"), aligning(seq("a", list(l[1:]...)), "1 0 000000 1 - 10 11111111111111"+sevens[8:]))
}

// mostOctets is how long a string of octets may be, so that it has 2^20 octets with
// its lengths: 15 of 65536 octets, one of 49152, and one of the rest in two octets.
const mostOctets = 1<<20 - 15 - 1 - 2

// holdLarge holds the error of a value, in both variants.
func holdLarge(t *testing.T, d []api.Desc, v api.Value, want api.Errno) {
	t.Helper()
	for _, aligned := range variants {
		b, e := modelEncode(d, aligned, v)
		if e != want {
			t.Fatalf("the model says %d, not %d", e, want)
		}
		holdOctets(t, d, aligned, v, b, e)
	}
}

// P16.1: additions whose separate encodings are as long as they may be, and longer.
func TestLarge(t *testing.T) {
	for _, x := range additions() {
		d := rows(t, x.text)
		holdLarge(t, d, x.value(long(api.Octets, mostOctets-x.ahead).value), api.OK)
		holdLarge(t, d, x.value(long(api.Octets, mostOctets-x.ahead+1).value), api.ErrLarge)
		holdLarge(t, d, x.value(long(api.Octets, api.MaxLength).value), api.ErrLarge)
		holdLarge(t, d, x.value(long(api.Octets, api.MaxLength+1).value), api.ErrConstraint)
	}
	most, more := long(api.Octets, mostOctets).value, long(api.Octets, mostOctets+1).value
	asPart := func(l ...api.Value) api.Value { return seq("a b c"[:2*len(l)-1], l...) }
	// Additions of additions: what is within is large, or what is around it.
	d := rows(t, "SEQUENCE { ..., a SEQUENCE { ..., a OCTET STRING } }")
	holdLarge(t, d, asPart(asPart(more)), api.ErrLarge)
	holdLarge(t, d, asPart(asPart(most)), api.ErrLarge)
	holdLarge(t, d, asPart(asPart(long(api.Octets, 1<<20-100).value)), api.OK)
	// Two additions together may be larger, but neither of them alone.
	d = rows(t, "SEQUENCE { ..., a OCTET STRING, b OCTET STRING }")
	holdLarge(t, d, asPart(most, most), api.OK)
	holdLarge(t, d, asPart(most, more), api.ErrLarge)
	holdLarge(t, d, asPart(more, most), api.ErrLarge)
	// What is no addition may be larger.
	d = rows(t, "SEQUENCE { a OCTET STRING, b SEQUENCE OF OCTET STRING, c CHOICE { d OCTET STRING } }")
	longest := long(api.Octets, api.MaxLength).value
	holdLarge(t, d, asPart(longest, list(longest), alternative("d", longest)), api.OK)
	// In a list's second fragment.
	d = rows(t, "SEQUENCE OF SEQUENCE { ..., a OCTET STRING }")
	l := slices.Repeat([]api.Value{seq("")}, 16385)
	for _, k := range []int{0, 16383, 16384} {
		with := slices.Clone(l)
		with[k] = asPart(more)
		holdLarge(t, d, list(with...), api.ErrLarge)
	}
}

// R1: long lists take no more time than it takes to go through them, be there as
// many ranges, parts and additions as there may be.
func TestLong(t *testing.T) {
	d := []api.Desc{{Kind: api.SeqOf, Set: []api.Range{{Hi: 1<<63 - 1}}, Hi: 1<<63 - 1, Elem: 1}, {Kind: api.Int, Ext: true}}
	for k := range 1 << 17 {
		d[1].Set = append(d[1].Set, api.Range{Lo: 3 * k, Hi: 3 * k})
	}
	d[1].Hi = 3<<17 - 3
	l := make([]api.Value, api.MaxLength)
	for k := range l {
		l[k] = integer(k * 7 % (1 << 19))
	}
	for _, aligned := range variants {
		b, e := enc.Encode(d, aligned, list(l...))
		if e != api.OK || len(b) < api.MaxLength {
			t.Error(aligned, e, len(b))
		}
	}
	d = rows(t, "SEQUENCE OF CHOICE { a NULL, ..., b SEQUENCE { ..., c NULL } }")
	for k := range l {
		l[k] = alternative("b", seq("c", null()))
	}
	for _, aligned := range variants {
		b, e := enc.Encode(d, aligned, list(l...))
		if e != api.OK || len(b) < 5*api.MaxLength {
			t.Error(aligned, e, len(b))
		}
	}
}
