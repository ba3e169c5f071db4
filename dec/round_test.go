package dec_test

import (
	"slices"
	"testing"

	"spandrel/api"
	"spandrel/dec"
	"spandrel/enc"
	"spandrel/member"
)

// sample is a type, and some of its values.
type sample struct {
	text   string
	values []api.Value
}

// samples are types of each Kind, with Ext and without it.
func samples() []sample {
	yes, no := boolean(1), boolean(0)
	l := func(v ...api.Value) []api.Value { return v }
	return []sample{
		{"BOOLEAN", l(yes, no)}, {"NULL", l(null())},
		{"INTEGER", l(integer(0), integer(-129), integer(least), integer(greatest))}, {"INTEGER (0..7)", l(integer(0), integer(5), integer(7))}, {"INTEGER (0..300 | 400)", l(integer(0), integer(300), integer(400))},
		{"INTEGER (0..100000)", l(integer(5), integer(256), integer(100000))}, {"INTEGER (3..MAX)", l(integer(3), integer(700))}, {"INTEGER (MIN..3)", l(integer(3), integer(-700))},
		{"INTEGER (0..6, ...)", l(integer(6), integer(7), integer(-1))}, {"INTEGER (0..255, ...)", l(integer(6), integer(256))}, {"INTEGER (3..MAX, ...)", l(integer(3), integer(2))},
		{"ENUMERATED { a, b, c }", l(item("a"), item("c"))}, {"ENUMERATED { a, ..., b, c }", l(item("a"), item("b"), item("c"))}, {"ENUMERATED { a, ..., " + numbered("m", 66, "") + " }", l(item("m63"), item("m64"))},
		{"BIT STRING", l(bits(""), bits("1010101"))}, {"BIT STRING (SIZE (3))", l(bits("101"))}, {"BIT STRING (SIZE (17))", l(bits("10100001111000011"))}, {"BIT STRING (SIZE (1..5, ...))", l(bits("10100"), bits(""), bits("1010101010"))},
		{"OCTET STRING", l(octets(""), octets("\x00\x01"))}, {"OCTET STRING (SIZE (2))", l(octets("\x00\xff"))}, {"OCTET STRING (SIZE (0..2 | 4))", l(octets(""), octets("abcd"))}, {"OCTET STRING (SIZE (1, ...))", l(octets("a"), octets("abcd"))},
		{"IA5String", l(str(""), str("a\x7f"))}, {`IA5String (FROM ("abc")) (SIZE (1..4))`, l(str("abc"), str("a"))}, {`IA5String (FROM ("ab")) (SIZE (2, ...))`, l(str("ab"), str("bab"))}, {"IA5String (SIZE (1..3))", l(str("~"), str("abc"))},
		{"SEQUENCE { }", l(seq(""))}, {"SEQUENCE { a BOOLEAN OPTIONAL, b INTEGER DEFAULT 5, c NULL }", l(seq("c", null()), seq("a b c", yes, integer(6), null()))},
		{"SEQUENCE { a BOOLEAN, ... }", l(seq("a", yes))}, {"SEQUENCE { a BOOLEAN OPTIONAL, ..., b INTEGER DEFAULT 5, c NULL }", l(seq(""), seq("a", yes), seq("b", integer(4)), seq("a c", no, null()), seq("a b c", no, integer(300), null()))},
		{"SEQUENCE { ..., " + numbered("m", 66, " BOOLEAN") + " }", l(seq("m0", yes), seq("m1 m65", no, yes))},
		{"SEQUENCE OF BOOLEAN", l(list(), list(yes, no, yes))}, {"SEQUENCE (SIZE (2)) OF INTEGER", l(list(integer(5), integer(-5)))}, {"SEQUENCE (SIZE (1..3, ...)) OF INTEGER (0..2)", l(list(integer(2)), list(), list(integer(0), integer(1), integer(2), integer(0)))},
		{"CHOICE { a NULL, b BOOLEAN, c INTEGER }", l(alternative("a", null()), alternative("b", yes), alternative("c", integer(700)))}, {"CHOICE { a NULL, ..., b BOOLEAN, c INTEGER }", l(alternative("a", null()), alternative("b", yes), alternative("c", integer(700)))},
		{"A ::= SEQUENCE { a SEQUENCE OF A, b CHOICE { c A, d NULL, ..., e A }, f BOOLEAN DEFAULT TRUE }", l(
			seq("a b", list(), alternative("d", null())),
			seq("a b f", list(seq("a b", list(), alternative("d", null()))), alternative("e", seq("a b", list(), alternative("c", seq("a b f", list(), alternative("d", null()), no)))), yes))},
	}
}

// encodedAs is the octets of a value.
func encodedAs(t *testing.T, d []api.Desc, aligned bool, v api.Value) []byte {
	t.Helper()
	b, e := enc.Encode(d, aligned, v)
	if e != api.OK {
		t.Fatalf("%s of %s: %d", shown(v), shown(d), e)
	}
	return b
}

// P17.2: what Encode returns is decoded to the value with all defaults.
func TestRound(t *testing.T) {
	for _, x := range samples() {
		d := rows(t, x.text)
		for _, v := range x.values {
			whole, e := member.Canon(d, v)
			if e != api.OK {
				t.Fatalf("%s: %s, %d", x.text, shown(v), e)
			}
			for _, aligned := range variants {
				b := encodedAs(t, d, aligned, v)
				if got, e := hold(t, d, aligned, b); e != api.OK || told(got) != told(whole) {
					t.Errorf("%s by %s, aligned %v: %s, %d, not %s", shown(b), shown(d), aligned, shown(got), e, shown(whole))
				}
			}
		}
	}
}

// P17.1, P17.2: encodings in which a bit is another one, or octets are put in, or
// left out.
func TestChanged(t *testing.T) {
	for _, x := range samples() {
		d := rows(t, x.text)
		for _, v := range x.values {
			for _, aligned := range variants {
				b := encodedAs(t, d, aligned, v)
				for k := range 8 * len(b) {
					c := slices.Clone(b)
					c[k/8] ^= 128 >> (k % 8)
					light(t, d, aligned, c)
				}
				for k := range len(b) + 1 {
					for _, o := range []byte{0, 1, 128, 255} {
						c := slices.Insert(slices.Clone(b), k, o)
						light(t, d, aligned, c)
						hold(t, d, aligned, c[:k+1])
					}
				}
			}
		}
	}
}

// P17.1, P17.2: all octets of some types, of which there are at most two.
func TestAllOctets(t *testing.T) {
	t.Parallel()
	for _, x := range samples() {
		d := rows(t, x.text)
		for _, aligned := range variants {
			light(t, d, aligned, nil)
			for a := range 256 {
				light(t, d, aligned, []byte{byte(a)})
				for _, c := range []byte{0, 1, 2, 63, 64, 127, 128, 129, 191, 192, 193, 255} {
					light(t, d, aligned, []byte{byte(a), c})
					light(t, d, aligned, []byte{byte(a), 1, c})
				}
			}
		}
	}
}

// P17.1: all that is decoded of two octets has octets of its own.
func TestOwnOctets(t *testing.T) {
	for _, text := range []string{"INTEGER", "BIT STRING (SIZE (1..3, ...))", "SEQUENCE { a BOOLEAN DEFAULT TRUE, b INTEGER (0..2) OPTIONAL, c BIT STRING (SIZE (0..5)) }", "SEQUENCE OF INTEGER (0..2)", `IA5String (FROM ("abc")) (SIZE (1..4, ...))`} {
		d := rows(t, text)
		for _, aligned := range variants {
			from := map[string]string{}
			for n := range 1 << 16 {
				b := []byte{byte(n >> 8), byte(n)}
				v, e := dec.Decode(d, aligned, b)
				if e != api.OK {
					continue
				}
				if last, is := from[told(v)]; is {
					t.Errorf("%s, aligned %v: %s and %q are %s", text, aligned, shown(b), last, shown(v))
				}
				from[told(v)] = string(b)
			}
			if len(from) == 0 {
				t.Error(text, aligned)
			}
		}
	}
}
