package member_test

import (
	"fmt"
	"reflect"
	"slices"
	"strings"
	"testing"

	"spandrel/api"
	"spandrel/member"
)

// nested is a type that contains itself, and how a value of it becomes part of
// another one.
type nested struct {
	text string
	last api.Value // a value of depth 1
	link func(api.Value) api.Value
}

// nestings are as a list, as an alternative, and as a part, of Parts and of Adds.
func nestings() []nested {
	asPart := func(v api.Value) api.Value { return seq("a", v) }
	return []nested{
		{"SEQUENCE OF A", list(), func(v api.Value) api.Value { return list(v) }},
		{"SEQUENCE OF A", list(), func(v api.Value) api.Value { return list(list(), v, list()) }},
		{"CHOICE { b NULL, a A }", alternative("b", null()), func(v api.Value) api.Value { return alternative("a", v) }},
		{"CHOICE { b NULL, ..., a A }", alternative("b", null()), func(v api.Value) api.Value { return alternative("a", v) }},
		{"SEQUENCE { a A OPTIONAL }", seq(""), asPart},
		{"SEQUENCE { ..., a A }", seq(""), asPart},
		{"SEQUENCE { b NULL, a A OPTIONAL, c BOOLEAN DEFAULT TRUE }", seq("b", null()), func(v api.Value) api.Value { return seq("b a c", null(), v, boolean(0)) }},
	}
}

// levels is a value that is nested so many levels deep.
func (x nested) levels(count int) api.Value {
	v := x.last
	for range count - 1 {
		v = x.link(v)
	}
	return v
}

// P15.2: a value nested 40 deep, and one nested 41 deep.
func TestDeep(t *testing.T) {
	for _, x := range nestings() {
		d := rows(t, "A ::= "+x.text)
		for _, count := range []int{1, 2, 3, 38, 39, 40} {
			v := x.levels(count)
			if depth(v) != count {
				t.Fatal(depth(v), count)
			}
			if c, e := hold(t, d, v); e != api.OK || depth(c) != count {
				t.Errorf("%s, %d: %d, %d", x.text, count, e, depth(c))
			}
		}
		for _, count := range []int{41, 42, 43, 80, 81, 1000} {
			fails(t, d, x.levels(count), api.ErrDeep)
		}
	}
	// A list, an alternative and a part count 1 each; what is in them counts 0.
	d := rows(t, "A ::= SEQUENCE OF CHOICE { a SEQUENCE { b A OPTIONAL, c B OPTIONAL }, b NULL }\nB ::= SEQUENCE { d INTEGER }")
	v := list()
	for range 13 {
		v = list(alternative("b", null()), alternative("a", seq("b", v)), alternative("a", seq("")))
	}
	if depth(v) != 40 {
		t.Fatal(depth(v))
	}
	belongs(t, d, v)
	deeper := list(alternative("a", seq("b", v)))
	fails(t, d, deeper, api.ErrDeep)
	// The deepest element counts, wherever it is.
	for k := range 5 {
		l := slices.Repeat([]api.Value{alternative("b", null())}, 5)
		l[k] = alternative("a", seq("b", v))
		fails(t, d, list(l...), api.ErrDeep)
	}
}

// P15.2: what is nested too deep is ErrDeep, also if it does not belong to the
// type; what is no Seq, SeqOf or Choice has no depth.
func TestDeepElsewhere(t *testing.T) {
	deep := api.Value{Kind: api.SeqOf}
	for k := range 40 {
		deep = api.Value{Kind: []int{api.Seq, api.SeqOf, api.Choice}[k%3], N: k, S: "s", L: []api.Value{{}, deep, null()}}
	}
	for _, x := range samples() {
		d := rows(t, x.text)
		fails(t, d, deep, api.ErrDeep)
		fails(t, d, list(x.value, deep), api.ErrDeep)
		fails(t, d, deep.L[1], api.ErrConstraint)
		for kind := range 13 {
			v := api.Value{Kind: kind, L: []api.Value{deep}}
			want := api.ErrConstraint
			if kind >= 8 && kind <= 10 {
				want = api.ErrDeep
			}
			fails(t, d, v, want)
			fails(t, d, api.Value{Kind: -kind, L: []api.Value{deep}}, api.ErrConstraint)
			fails(t, d, list(x.value, v), want)
			fails(t, d, alternative("a", v), want)
			fails(t, d, seq("a b", x.value, v), want)
		}
	}
}

// P15.2: of two errors at once, or three, the first one that is named.
func TestCheckOrder(t *testing.T) {
	right := rows(t, "A ::= SEQUENCE { a A OPTIONAL, b BOOLEAN DEFAULT TRUE }")
	wrong := rows(t, "A ::= SEQUENCE { a A OPTIONAL, b BOOLEAN DEFAULT TRUE }")
	wrong[0].Parts[1].Def[0].N = 2
	invalid := rows(t, "A ::= SEQUENCE { a A OPTIONAL, b BOOLEAN DEFAULT TRUE }")
	invalid[0].Parts[0].T = 2
	x := nested{"", seq(""), func(v api.Value) api.Value { return seq("a", v) }}
	beside := nested{"", seq("c", null()), x.link}
	fails(t, right, x.levels(41), api.ErrDeep)
	fails(t, right, beside.levels(40), api.ErrConstraint)
	fails(t, right, beside.levels(41), api.ErrDeep)
	for _, d := range [][]api.Desc{wrong, invalid, nil} {
		fails(t, d, x.levels(1), api.ErrArg)
		fails(t, d, x.levels(40), api.ErrArg)
		fails(t, d, x.levels(41), api.ErrArg)
		fails(t, d, beside.levels(40), api.ErrArg)
		fails(t, d, beside.levels(41), api.ErrArg)
	}
	// What does not belong comes ahead of what is too deep.
	bad := seq("a b", x.levels(40), boolean(2))
	fails(t, right, bad, api.ErrDeep)
	fails(t, right, seq("b a", boolean(2), x.levels(40)), api.ErrDeep)
	fails(t, right, seq("a b", x.levels(39), boolean(2)), api.ErrConstraint)
}

// deepest is how many levels of nesting the document asks for.
const deepest = 1 << 16

// R1: very deep values.
func TestVeryDeep(t *testing.T) {
	for _, x := range nestings() {
		d := rows(t, "A ::= "+x.text)
		a, b := x.levels(deepest), x.levels(deepest)
		if e := member.Check(d, a); e != api.ErrDeep {
			t.Error(x.text, e)
		}
		if v, e := member.Canon(d, a); e != api.ErrDeep || !reflect.DeepEqual(v, api.Value{}) {
			t.Error(x.text, e)
		}
		if !member.Same(a, b) || member.Same(a, x.levels(deepest-1)) {
			t.Error(x.text)
		}
		other := x
		other.last.N = 1
		if member.Same(a, other.levels(deepest)) || member.Same(other.levels(deepest), b) {
			t.Error(x.text)
		}
	}
}

// R1: long lists take no more time than it takes to go through them.
func TestLong(t *testing.T) {
	var set []string
	for k := range 3000 {
		set = append(set, fmt.Sprint(3*k))
	}
	d := rows(t, "SEQUENCE OF INTEGER ("+strings.Join(set, " | ")+")")
	d[1].Set = nil
	for k := range 1 << 17 {
		d[1].Set = append(d[1].Set, api.Range{Lo: 3 * k, Hi: 3 * k})
	}
	d[1].Hi = 3<<17 - 3
	all := make([]api.Value, api.MaxLength)
	for k := range all {
		all[k] = integer(k * 7 % (1 << 17) * 3)
	}
	holdLong(t, d, list(all...), api.OK)
	all[len(all)-1].N = 4
	holdLong(t, d, list(all...), api.ErrConstraint)

	d = rows(t, "SEQUENCE OF SEQUENCE { a BOOLEAN DEFAULT TRUE, b NULL }")
	for k := range all {
		all[k] = seq("b", null())
	}
	holdLong(t, d, list(all...), api.OK)
	all[len(all)-1].Names = nil
	holdLong(t, d, list(all...), api.ErrConstraint)

	// A long text of a long alphabet.
	whole := ""
	for c := range 128 {
		whole += string(rune(c))
	}
	d = rows(t, "IA5String")
	d[0].From = whole
	v := str(strings.Repeat("\x7f", api.MaxLength))
	holdLong(t, d, v, api.OK)
	d[0].From = whole[:127]
	holdLong(t, d, v, api.ErrConstraint)
}

// holdLong holds the error of a value.
func holdLong(t *testing.T, d []api.Desc, v api.Value, want api.Errno) {
	t.Helper()
	if e := member.Check(d, v); e != want {
		t.Errorf("%d, not %d", e, want)
	}
	c, e := member.Canon(d, v)
	if e != want || len(c.L) != len(v.L) && e == api.OK {
		t.Errorf("%d, not %d", e, want)
	}
	if e == api.OK && member.Check(d, c) != api.OK {
		t.Error("it does not belong any more")
	}
}

// P15.1 to P15.3: tables and values as large as they may be.
func TestMost(t *testing.T) {
	d := slices.Repeat([]api.Desc{{Kind: api.Bool}}, 4096)
	for k := range 16 {
		r := api.Desc{Kind: api.Seq, Ext: true}
		for p := range api.MaxNames {
			r.Parts = append(r.Parts, api.Field{Name: fmt.Sprint("p", p), T: 16 + p, Def: []api.Value{boolean(p % 2)}})
			r.Adds = append(r.Adds, api.Field{Name: fmt.Sprint("q", p), T: 4095 - p, Opt: p%2 == 0})
		}
		r.Adds[255] = api.Field{Name: "next", T: k + 1}
		d[k] = r
	}
	holdRight(t, d, true)
	if c, e := hold(t, d, seq("p7 q0 next", boolean(0), boolean(1), seq("p255", boolean(0)))); e != api.OK || len(c.L) != 258 || len(c.L[257].L) != 256 {
		t.Error(e, len(c.L))
	}
	whole := seq("")
	for _, p := range allParts(d[0]) {
		whole.Names, whole.L = append(whole.Names, p.Name), append(whole.L, boolean(1))
	}
	whole.L[511] = seq("")
	if c, e := hold(t, d, whole); e != api.OK || len(c.L) != 512 {
		t.Error(e, len(c.L))
	}
	for _, k := range []int{0, 100, 255, 256, 509} {
		v := seq("")
		v.Names, v.L = slices.Clone(whole.Names), slices.Clone(whole.L)
		v.Names[k], v.Names[k+1] = v.Names[k+1], v.Names[k]
		v.L[k], v.L[k+1] = v.L[k+1], v.L[k]
		refused(t, d, v, "in order")
	}
	d[4095] = api.Desc{Kind: api.Seq, Parts: []api.Field{{Name: "a", T: 17, Def: []api.Value{boolean(3)}}}}
	holdRight(t, d, false)
	d[4095].Parts[0].Def[0].N = 1
	holdRight(t, d, true)
}

// Nothing is kept from call to call: neither tables nor values.
func TestNothingKept(t *testing.T) {
	d := rows(t, "A ::= SEQUENCE { a INTEGER (0..7) DEFAULT 5, b A OPTIONAL, c ENUMERATED { x, y } }")
	v := seq("c", item("x"))
	completed(t, d, v, seq("a c", integer(5), item("x")))
	d[0].Parts[0].Def[0].N = 7
	completed(t, d, v, seq("a c", integer(7), item("x")))
	d[0].Parts[0].Def[0].N = 8
	fails(t, d, v, api.ErrArg)
	d[0].Parts[0].Def = nil
	refused(t, d, v, "required")
	d[0].Parts[0].Opt = true
	completed(t, d, v, v)
	v.L[0].S = "z"
	refused(t, d, v, "item")
	d[2].Names[1] = "z"
	completed(t, d, v, v)
}
