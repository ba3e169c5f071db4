package dec_test

import (
	"strings"
	"testing"

	"spandrel/api"
	"spandrel/dec"
	"spandrel/enc"
)

// nested is a type that contains itself: the digits that lead one level deeper, and
// those of a value of depth 1.
type nested struct {
	text       string
	link, last string
	value      api.Value
	within     func(api.Value) api.Value
}

// nestings are as a list, as an alternative, and as a part.
func nestings() []nested {
	return []nested{
		{"SEQUENCE (SIZE (0..1)) OF A", "1", "0", list(), func(v api.Value) api.Value { return list(v) }},
		{"CHOICE { b NULL, a A }", "1", "0", alternative("b", null()), func(v api.Value) api.Value { return alternative("a", v) }},
		{"SEQUENCE { a A OPTIONAL }", "1", "0", seq(""), func(v api.Value) api.Value { return seq("a", v) }},
		{"SEQUENCE { b NULL, a A OPTIONAL, c BOOLEAN OPTIONAL }", "10", "00", seq("b", null()), func(v api.Value) api.Value { return seq("b a", null(), v) }},
	}
}

// levels is a value that is nested so many levels deep.
func (x nested) levels(count int) api.Value {
	v := x.value
	for range count - 1 {
		v = x.within(v)
	}
	return v
}

// P17.1: values nested 40 deep, and 41 deep: this is told before anything of the
// value at the 41st level is read.
func TestDeep(t *testing.T) {
	for _, x := range nestings() {
		d := rows(t, "A ::= "+x.text)
		for _, count := range []int{1, 2, 39, 40} {
			decoded(t, d, same(x.levels(count), strings.Repeat(x.link, count-1)+x.last))
		}
		links := strings.Repeat(x.link, 40)
		decoded(t, d, wrong(api.ErrDeep, links), wrong(api.ErrDeep, links+x.last), wrong(api.ErrDeep, links+strings.Repeat(x.link, 1000)), wrong(api.ErrDeep, links+"01010101 1"))
		// Where the octets end ahead of the 41st level, this is told.
		decoded(t, d, wrong(api.ErrShort, strings.Repeat(x.link, 39)[:32]))
	}
}

// P17.1: what is at the 41st level counts if it is a Seq, a SeqOf or a Choice.
func TestDeepKinds(t *testing.T) {
	links := strings.Repeat("1", 39)
	for _, kind := range []string{"SEQUENCE { }", "SEQUENCE { a BOOLEAN }", "SEQUENCE { ... }", "SEQUENCE OF NULL", "SEQUENCE (SIZE (0)) OF NULL", "SEQUENCE (SIZE (3, ...)) OF BOOLEAN", "CHOICE { a NULL }", "CHOICE { a BOOLEAN, b NULL }", "CHOICE { a NULL, ... }"} {
		d := rows(t, "A ::= CHOICE { b "+kind+", a A }")
		decoded(t, d, wrong(api.ErrDeep, links+"0"), wrong(api.ErrDeep, links+"01111111 1"))
		// One level less, there is such a value, or another error.
		for _, aligned := range variants {
			for _, b := range [][]byte{packed(links[1:] + "00"), packed(links[1:] + "0")} {
				if v, e := hold(t, d, aligned, b); e == api.ErrDeep {
					t.Error(kind, shown(v), e)
				}
			}
		}
	}
	v := func(x api.Value) api.Value {
		for range 40 {
			x = alternative(map[bool]string{true: "a", false: "b"}[x.Kind == api.Choice], x)
		}
		return x
	}
	decoded(t, rows(t, "A ::= CHOICE { b NULL, a A }"), same(v(null()), links+"0"))
	decoded(t, rows(t, "A ::= CHOICE { b BOOLEAN, a A }"), same(v(boolean(1)), links+"01"))
	decoded(t, rows(t, "A ::= CHOICE { b INTEGER (0..3), a A }"), same(v(integer(2)), links+"010"))
	decoded(t, rows(t, "A ::= CHOICE { b OCTET STRING (SIZE (1)), a A }"), same(v(octets("\xff")), links+"011111111"))
}

// P17.1: additions nested 40 deep, and 41 deep, each in a stream of its own.
func TestDeepAdds(t *testing.T) {
	link := func(x api.Value) api.Value { return seq("a", x) }
	as := func(x api.Value) api.Value { return alternative("a", x) }
	for _, x := range []nested{
		{"SEQUENCE { ..., a A }", "1 0 000000 1", "0", seq(""), link},
		{"CHOICE { b NULL, ..., a A }", "1 0 000000", "0", alternative("b", null()), as},
	} {
		d := rows(t, "A ::= "+x.text)
		for _, aligned := range variants {
			b, e := enc.Encode(d, aligned, x.levels(40))
			if e != api.OK {
				t.Fatal(e)
			}
			if v, e := hold(t, d, aligned, b); e != api.OK || told(v) != told(x.levels(40)) {
				t.Error(x.text, shown(v), e)
			}
			// One more stream around them; what is in the innermost one is not read,
			// so it may be anything.
			for _, innermost := range []string{"", zeros, ones, "10101010 10101010"} {
				text := strings.ReplaceAll(innermost, " ", "")
				for range 40 {
					n := len(text) / 8
					size := digits(n, 8)
					if n > 127 {
						size = "10" + digits(n, 14)
					}
					head := x.link
					if aligned {
						head += "-"
					}
					text = filled(spelled(head + size + text))
				}
				if v, e := hold(t, d, aligned, packed(text)); e != api.ErrDeep {
					t.Error(x.text, innermost, shown(v), e)
				}
			}
		}
	}
	// What is unknown has no depth.
	links := strings.Repeat("1", 38)
	d := rows(t, "A ::= CHOICE { b SEQUENCE { ... }, a A }")
	v := alternative("b", seq(""))
	for range 38 {
		v = alternative("a", v)
	}
	decoded(t, d, aligning(v, links+"0 1 0 000000 1 - 00000010 11111111 11111111"))
	decoded(t, d, wrong(api.ErrDeep, "1"+links+"0 1 0 000000 1 - 00000010 11111111 11111111"))
}

// P17.1, R1: rows whose values have no end are ErrDeep, whatever the octets are.
func TestEndless(t *testing.T) {
	size := []api.Range{{Lo: 2, Hi: 2}}
	most := []api.Range{{Lo: 65535, Hi: 65535}}
	for _, d := range [][]api.Desc{
		{{Kind: api.Seq, Parts: []api.Field{{Name: "a"}}}},
		{{Kind: api.Seq, Parts: []api.Field{{Name: "a"}, {Name: "b"}}}},
		{{Kind: api.Choice, Parts: []api.Field{{Name: "a"}}, Order: []int{0}}},
		{{Kind: api.SeqOf, Set: size, Lo: 2, Hi: 2}},
		{{Kind: api.SeqOf, Set: most, Lo: 65535, Hi: 65535}},
		{{Kind: api.SeqOf, Set: most, Lo: 65535, Hi: 65535, Elem: 1}, {Kind: api.Seq, Parts: []api.Field{{Name: "a", T: 2}, {Name: "b", T: 2}}}, {Kind: api.Choice, Parts: []api.Field{{Name: "a"}}, Order: []int{0}}},
	} {
		octetsAre(t, d, api.ErrDeep, api.Value{})
		octetsAre(t, d, api.ErrDeep, api.Value{}, 0)
		octetsAre(t, d, api.ErrDeep, api.Value{}, 255, 255)
	}
	// In each of 40 levels, the first of many elements is wrong.
	var d []api.Desc
	for k := range 40 {
		d = append(d, api.Desc{Kind: api.SeqOf, Set: most, Lo: 65535, Hi: 65535, Elem: k + 1})
	}
	octetsAre(t, append(d, api.Desc{Kind: api.Bool}), api.ErrShort, api.Value{})
	octetsAre(t, append(d, api.Desc{Kind: api.Enum, Ext: true, Names: []string{"a"}}), api.ErrUnknown, api.Value{}, 128)
	octetsAre(t, append(d, api.Desc{Kind: api.Seq}), api.ErrDeep, api.Value{})
}

// R1: very many octets.
func TestManyOctets(t *testing.T) {
	b := make([]byte, 1<<22)
	for k := range b {
		b[k] = 0b10000001
	}
	for _, text := range []string{"A ::= SEQUENCE OF A", "A ::= SEQUENCE { a BOOLEAN, ..., b A, c BOOLEAN }", "A ::= CHOICE { a BOOLEAN, ..., b A }", "SEQUENCE OF SEQUENCE { ... }", "OCTET STRING", "SEQUENCE (SIZE (65535)) OF INTEGER", "SEQUENCE { a BOOLEAN, ... }"} {
		d := rows(t, text)
		for _, aligned := range variants {
			for _, first := range []byte{0, 128, 192, 196, 255} {
				b[0] = first
				if v, e := dec.Decode(d, aligned, b); e == api.OK || !isEmpty(v) {
					t.Error(text, aligned, first, shown(v), e)
				}
			}
		}
	}
}
