package member_test

import (
	"testing"

	"spandrel/api"
	"spandrel/member"
)

// P15.3: there is nothing to complete in values that have no Seq.
func TestCanonPlain(t *testing.T) {
	for _, x := range []struct {
		text   string
		values []api.Value
	}{
		{"BOOLEAN", []api.Value{boolean(0), boolean(1)}}, {"INTEGER", []api.Value{integer(-5)}}, {"ENUMERATED { a, ..., b }", []api.Value{item("a"), item("b")}}, {"NULL", []api.Value{null()}},
		{"BIT STRING", []api.Value{bits(""), bits("01")}}, {"OCTET STRING", []api.Value{octets(""), octets("\x00\xff")}}, {"IA5String", []api.Value{str(""), str("ab")}},
		{"SEQUENCE OF INTEGER", []api.Value{list(), list(integer(1), integer(1), integer(-7))}}, {"SEQUENCE OF SEQUENCE OF BOOLEAN", []api.Value{list(list(), list(boolean(1), boolean(0)), list())}},
		{"CHOICE { a NULL, ..., b CHOICE { c INTEGER } }", []api.Value{alternative("a", null()), alternative("b", alternative("c", integer(7)))}},
		{"SEQUENCE { }", []api.Value{seq("")}}, {"SEQUENCE { a NULL, b BOOLEAN OPTIONAL, ..., c NULL OPTIONAL, d NULL }", []api.Value{seq("a", null()), seq("a b", null(), boolean(1)), seq("a d", null(), null()), seq("a b c d", null(), boolean(0), null(), null())}},
	} {
		belongs(t, rows(t, x.text), x.values...)
	}
}

// P15.3: a default of each Kind.
func TestCanonKind(t *testing.T) {
	for text, v := range map[string]api.Value{
		"BOOLEAN DEFAULT TRUE": boolean(1), "BOOLEAN DEFAULT FALSE": boolean(0), "INTEGER DEFAULT -5": integer(-5), "INTEGER (1..3) DEFAULT 2": integer(2), "INTEGER DEFAULT 0": integer(0),
		"ENUMERATED { x, ..., y } DEFAULT x": item("x"), "ENUMERATED { x, ..., y } DEFAULT y": item("y"), `IA5String DEFAULT ""`: str(""), `IA5String (FROM ("ab")) DEFAULT "ba"`: str("ba"),
	} {
		completed(t, rows(t, "SEQUENCE { a "+text+" }"), seq(""), seq("a", v))
		completed(t, rows(t, "SEQUENCE { ..., a "+text+" }"), seq(""), seq("a", v))
		completed(t, rows(t, "SEQUENCE { b NULL, a "+text+", c NULL OPTIONAL, ..., d "+text+", e NULL }"), seq("b", null()), seq("b a d", null(), v, v))
		completed(t, rows(t, "SEQUENCE OF SEQUENCE { a "+text+" }"), list(seq(""), seq("")), list(seq("a", v), seq("a", v)))
	}
}

// P15.3: defaults of Parts and of Adds at their places, among all parts that a
// value has itself.
func TestCanonPlaces(t *testing.T) {
	d := rows(t, "SEQUENCE { a INTEGER DEFAULT 1, b INTEGER, c INTEGER OPTIONAL, d INTEGER DEFAULT 4, ..., e INTEGER DEFAULT 5, f INTEGER, g INTEGER DEFAULT 7, h INTEGER OPTIONAL }")
	ten := func(names ...string) api.Value {
		v := api.Value{Kind: api.Seq, Names: names}
		for k := range names {
			v.L = append(v.L, integer(10+k))
		}
		return v
	}
	i := integer
	for _, x := range []struct{ v, want api.Value }{
		{ten("b"), seq("a b d e g", i(1), i(10), i(4), i(5), i(7))},
		{ten("b", "c"), seq("a b c d e g", i(1), i(10), i(11), i(4), i(5), i(7))},
		{ten("a", "b"), seq("a b d e g", i(10), i(11), i(4), i(5), i(7))},
		{ten("b", "d"), seq("a b d e g", i(1), i(10), i(11), i(5), i(7))},
		{ten("b", "c", "d"), seq("a b c d e g", i(1), i(10), i(11), i(12), i(5), i(7))},
		{ten("b", "f"), seq("a b d e f g", i(1), i(10), i(4), i(5), i(11), i(7))},
		{ten("b", "e", "h"), seq("a b d e g h", i(1), i(10), i(4), i(11), i(7), i(12))},
		{ten("b", "g"), seq("a b d e g", i(1), i(10), i(4), i(5), i(11))},
		{ten("b", "h"), seq("a b d e g h", i(1), i(10), i(4), i(5), i(7), i(11))},
		{ten("b", "c", "f", "h"), seq("a b c d e f g h", i(1), i(10), i(11), i(4), i(5), i(12), i(7), i(13))},
		{ten("a", "b", "c", "d", "e", "f", "g", "h"), ten("a", "b", "c", "d", "e", "f", "g", "h")},
		// Values that are their defaults.
		{seq("a b g", i(1), i(1), i(7)), seq("a b d e g", i(1), i(1), i(4), i(5), i(7))},
		{seq("a b d e g", i(1), i(2), i(4), i(5), i(7)), seq("a b d e g", i(1), i(2), i(4), i(5), i(7))},
	} {
		completed(t, d, x.v, x.want)
		// Within a list, a Choice and a Seq.
		completed(t, around(d, api.Desc{Kind: api.SeqOf, Set: []api.Range{{Lo: 0, Hi: 9}}, Hi: 9, Elem: 1}), list(x.v, x.want, x.v), list(x.want, x.want, x.want))
		completed(t, around(d, api.Desc{Kind: api.Choice, Ext: true, Parts: []api.Field{{Name: "a", T: 2}}, Adds: []api.Field{{Name: "b", T: 1}}, Order: []int{0}}), alternative("b", x.v), alternative("b", x.want))
		completed(t, around(d, api.Desc{Kind: api.Choice, Ext: true, Parts: []api.Field{{Name: "a", T: 1}}, Adds: []api.Field{{Name: "b", T: 2}}, Order: []int{0}}), alternative("a", x.v), alternative("a", x.want))
		completed(t, around(d, api.Desc{Kind: api.Seq, Ext: true, Parts: []api.Field{{Name: "a", T: 1, Opt: true}}, Adds: []api.Field{{Name: "b", T: 1}, {Name: "c", T: 2, Def: []api.Value{i(5)}}}}), seq("a b", x.v, x.v), seq("a b c", x.want, x.want, i(5)))
	}
	// What a default lets be absent is not absent for that if it is required.
	refused(t, d, ten("a", "c", "d", "e", "f", "g", "h"), "required")
	refused(t, d, ten(), "required")
}

// around is a table with another row ahead.
func around(d []api.Desc, first api.Desc) []api.Desc {
	l := []api.Desc{first}
	for _, r := range d {
		r.Parts, r.Adds = moved(r.Parts), moved(r.Adds)
		l = append(l, r)
	}
	return l
}

// moved are parts whose rows are one place further on.
func moved(parts []api.Field) []api.Field {
	var l []api.Field
	for _, p := range parts {
		p.T++
		l = append(l, p)
	}
	return l
}

// P15.3: at any depth, and only where there is a Seq.
func TestCanonDepth(t *testing.T) {
	d := rows(t, `A ::= SEQUENCE { a BOOLEAN DEFAULT TRUE, b B OPTIONAL, ..., c INTEGER DEFAULT 7, d SEQUENCE OF A }
		B ::= CHOICE { e NULL, f A, g SEQUENCE OF B, ..., h SEQUENCE { i ENUMERATED { x, y } DEFAULT y, j A } }`)
	one, seven := boolean(1), integer(7)
	whole := seq("a c", one, seven)
	completed(t, d, seq(""), whole)
	completed(t, d, seq("d", list()), seq("a c d", one, seven, list()))
	completed(t, d, seq("d", list(seq(""), seq("a", boolean(0)), seq("c", integer(8)))), seq("a c d", one, seven, list(whole, seq("a c", boolean(0), seven), seq("a c", one, integer(8)))))
	completed(t, d, seq("b", alternative("e", null())), seq("a b c", one, alternative("e", null()), seven))
	completed(t, d, seq("b", alternative("f", seq(""))), seq("a b c", one, alternative("f", whole), seven))
	completed(t, d, seq("b", alternative("g", list(alternative("f", seq("")), alternative("e", null())))), seq("a b c", one, alternative("g", list(alternative("f", whole), alternative("e", null()))), seven))
	completed(t, d, seq("b", alternative("h", seq("j", seq("")))), seq("a b c", one, alternative("h", seq("i j", item("y"), whole)), seven))
	completed(t, d, seq("b d", alternative("h", seq("i j", item("x"), seq("c", integer(1)))), list(seq(""))), seq("a b c d", one, alternative("h", seq("i j", item("x"), seq("a c", one, integer(1)))), seven, list(whole)))
	refused(t, d, seq("b", alternative("h", seq(""))), "required")
}

// P15.3: the error of Check, alone.
func TestCanonErrors(t *testing.T) {
	d := rows(t, "SEQUENCE { a BOOLEAN DEFAULT TRUE, b NULL }")
	fails(t, d, seq(""), api.ErrConstraint)
	fails(t, d, seq("b", boolean(1)), api.ErrConstraint)
	fails(t, d, api.Value{}, api.ErrConstraint)
	fails(t, nil, seq(""), api.ErrArg)
	d[0].Parts[0].Def[0].N = 2
	fails(t, d, seq("b", null()), api.ErrArg)
}

// R3: what Canon answers is its own, also where lists of an argument have room
// behind them.
func TestCanonOwn(t *testing.T) {
	d := rows(t, "SEQUENCE { a BOOLEAN DEFAULT TRUE, b SEQUENCE OF NULL }")
	d[0].Parts[0].Def[0].L = make([]api.Value, 0, 3)
	d[0].Parts[0].Def[0].Names = make([]string, 0, 3)
	v := seq("b", list())
	v.L[0].L = make([]api.Value, 0, 3)
	v.L[0].Names = make([]string, 0, 3)
	c, e := member.Canon(d, v)
	if e != api.OK {
		t.Fatal(e)
	}
	holdApart(t, c, arguments{d, v})
	for k := range c.L {
		c.L[k].L = append(c.L[k].L, integer(7))
		c.L[k].Names = append(c.L[k].Names, "x")
	}
	c.Names[0], c.L[1] = "z", null()
	completed(t, d, v, seq("a b", boolean(1), list()))
	if got := d[0].Parts[0].Def[0].L[:1][0]; !member.Same(got, api.Value{}) {
		t.Error(told(got))
	}
	if got := v.L[0].Names[:1][0]; got != "" {
		t.Error(got)
	}
}
