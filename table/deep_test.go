package table_test

import (
	"fmt"
	"math"
	"slices"
	"strings"
	"testing"

	"spandrel/api"
	"spandrel/table"
)

// deepest is how many levels of nesting the document asks for, and many how long
// lists are in the tests that follow.
const (
	deepest = 1 << 16
	many    = 1 << 16
)

// full is the full name of the entry with a number.
func full(k int) string { return fmt.Sprint("M.", k) }

// chain is entries each of which refers to the next one, as link says, up to the
// last one, which is of a type.
func chain(count int, auto bool, last api.Type, link func(next api.Type) api.Type) []api.Entry {
	var l []api.Entry
	for k := range count - 1 {
		l = append(l, entry(full(k), auto, link(ref(full(k+1)))))
	}
	return append(l, entry(full(count-1), auto, last))
}

// holdRows holds the error of a name, and how many rows there are.
func holdRows(t *testing.T, l []api.Entry, name string, want int, wantError api.Errno) {
	t.Helper()
	for range 2 {
		d, e := table.Lower(l, name)
		if len(d) != want || e != wantError {
			t.Errorf("%s: %d rows, %d, not %d, %d", name, len(d), e, want, wantError)
		}
		if e == api.OK && !table.Right(d) {
			t.Errorf("%s: the table is not valid", name)
		}
		// The other way round.
		slices.Reverse(l)
	}
}

// R1: very many Refs take no more time than it takes to go through them.
func TestLongChains(t *testing.T) {
	alone := func(next api.Type) api.Type { return next }
	null := api.Type{Kind: api.Null}
	l := chain(many, false, null, alone)
	for _, k := range []int{0, 1, many / 2, many - 1} {
		holdRows(t, l, full(k), 1, api.OK)
	}
	holdRows(t, l, full(many), 0, api.ErrName)
	// Each part begins the chain at another place, or at the same one.
	all, same := api.Type{Kind: api.Seq}, api.Type{Kind: api.Seq}
	for k := range many {
		all.Adds = append(all.Adds, part("a", ref(full(k))))
		same.Parts = append(same.Parts, part("a", ref(full(0))))
	}
	for _, x := range []api.Type{all, same} {
		l := append(slices.Clone(l), entry("M.A", true, x))
		for range 2 {
			d, e := table.Lower(l, "M.A")
			if len(d) != 2 || e != api.OK || len(d[0].Parts)+len(d[0].Adds) != many {
				t.Errorf("%d rows, %d", len(d), e)
			}
			slices.Reverse(all.Adds)
		}
	}
	// Round in a circle, and to what is not there.
	for _, x := range []api.Type{ref(full(0)), ref(full(many / 2)), ref(full(many - 1)), ref(full(many))} {
		holdRows(t, chain(many, false, x, alone), full(0), 0, api.ErrDeep)
	}
}

// R1: very many entries, of which each one uses the next one.
func TestManyEntries(t *testing.T) {
	null := api.Type{Kind: api.Null}
	links := []func(next api.Type) api.Type{
		seqOf,
		func(next api.Type) api.Type { return api.Type{Kind: api.Choice, Parts: []api.Part{part("a", next)}} },
		func(next api.Type) api.Type {
			return api.Type{Kind: api.Seq, Parts: []api.Part{optional("a", next)}, Ext: true}
		},
		func(next api.Type) api.Type {
			return api.Type{Kind: api.Choice, Ext: true, Parts: []api.Part{part("b", null)}, Adds: []api.Part{part("a", seqOf(next))}}
		},
	}
	for k, link := range links {
		for _, auto := range []bool{false, true} {
			each := []int{1, 1, 1, 3}[k]
			for _, last := range []api.Type{null, ref(full(0))} {
				if k == 1 && last.Kind == api.Ref {
					// Such a Choice has no end.
					continue
				}
				rows := 1001*each - each + 1
				if last.Kind == api.Ref {
					rows--
				}
				holdRows(t, chain(1001, auto, last, link), full(0), rows, api.OK)
				holdRows(t, chain(many, auto, last, link), full(0), 0, api.ErrArg)
			}
			holdRows(t, chain(many, auto, null, link), full(many-1), 1, api.OK)
			holdRows(t, chain(many, auto, null, link), full(many-101), 100*each+1, api.OK)
		}
	}
	// As many rows as there may be, all but one of them a Choice, of which each one
	// has the tags of all that follow.
	for _, auto := range []bool{false, true} {
		holdRows(t, chain(4096, auto, null, links[1]), full(0), 4096, api.OK)
		holdRows(t, chain(4097, auto, null, links[1]), full(0), 0, api.ErrArg)
	}
}

// P14.2, R1: many Choices at once, which have few tags, or the same ones.
func TestManyOrders(t *testing.T) {
	var l []api.Entry
	x := api.Type{Kind: api.Seq}
	texts := []string{"CHOICE { a NULL, b BOOLEAN }", "CHOICE { a NULL, b BOOLEAN, c INTEGER }", "CHOICE { a BOOLEAN, b IA5String, ..., c NULL }", "CHOICE { a M-9999, b NULL }", "CHOICE { a SEQUENCE { a NULL, b CHOICE { a IA5String, b NULL, c BOOLEAN } }, b ENUMERATED { a } }"}
	orders := []string{"[1 0]", "[1 2 0]", "[0 1]", "[0 1]", "[1 0] [2 1 0]"}
	var want []string
	for k := range 800 {
		auto := k%7 == 0
		l = append(l, entry(full(k), auto, typ(t, texts[k%len(texts)])))
		x.Parts = append(x.Parts, part(fmt.Sprint("a", k), ref(full(k))))
		order := orders[k%len(texts)]
		if auto {
			order = map[string]string{"[1 0]": "[0 1]", "[1 2 0]": "[0 1 2]", "[0 1]": "[0 1]", "[1 0] [2 1 0]": "[0 1] [0 1 2]"}[order]
		}
		want = append(want, order)
	}
	l = append(l, entry("M.9999", false, typ(t, "CHOICE { a OCTET STRING, ..., b BOOLEAN }")), entry("M.A", false, x))
	// The last one stands ahead of the others.
	x.Parts = append([]api.Part{part("z", ref("M.9999"))}, x.Parts...)
	l[len(l)-1].T = x
	want = append([]string{"[0]"}, want...)
	for range 2 {
		d, e := table.Lower(l, "M.A")
		if e != api.OK {
			t.Fatal(e)
		}
		var got []string
		for _, r := range d {
			if r.Kind == api.Choice {
				got = append(got, fmt.Sprint(r.Order))
			}
		}
		if strings.Join(got, " ") != strings.Join(want, " ") {
			t.Errorf("%s, not %s", got, want)
		}
		slices.Reverse(l)
	}
}

// R1: as many levels of nesting as the document asks for.
func TestDeepest(t *testing.T) {
	null := api.Type{Kind: api.Null}
	for k, within := range []func(x api.Type) api.Type{
		seqOf,
		func(x api.Type) api.Type { return api.Type{Kind: api.Seq, Parts: []api.Part{part("a", x)}} },
		func(x api.Type) api.Type { return api.Type{Kind: api.Choice, Parts: []api.Part{part("a", x)}} },
		func(x api.Type) api.Type { return api.Type{Kind: api.Seq, Adds: []api.Part{part("a", x)}, Ext: true} },
		func(x api.Type) api.Type {
			return api.Type{Kind: api.Choice, Adds: []api.Part{part("a", x)}, Ext: true, Parts: []api.Part{part("b", ref("M.B"))}}
		},
	} {
		deep := func(levels int) []api.Entry {
			x := null
			for range levels - 1 {
				x = within(x)
			}
			return []api.Entry{entry("M.A", true, x), entry("M.B", true, null)}
		}
		holdRows(t, deep(deepest-2), "M.A", 0, api.ErrArg)
		holdRows(t, deep(deepest-2), "M.B", 1, api.OK)
		rows := 4096
		if k == 4 {
			// One of them is that of M.B.
			rows--
		}
		holdRows(t, deep(rows), "M.A", 4096, api.OK)
		holdRows(t, deep(rows+1), "M.A", 0, api.ErrArg)
	}
}

// P14.2, R3: a Def with as many levels, and with many elements.
func TestDeepestDef(t *testing.T) {
	v := api.Value{Kind: 9}
	for range deepest - 10 {
		v = api.Value{Kind: 9, Names: []string{"a"}, L: []api.Value{v}}
	}
	wide := api.Value{Kind: 9, Names: slices.Repeat([]string{"a"}, many), L: slices.Repeat([]api.Value{{Kind: 2}}, many)}
	x := api.Type{Kind: api.Seq, Parts: []api.Part{{Name: "a", T: api.Type{Kind: api.Null}, Def: []api.Value{v}}, {Name: "b", T: api.Type{Kind: api.Null}, Def: []api.Value{wide}}}}
	d, e := table.Lower([]api.Entry{entry("M.A", true, x)}, "M.A")
	if e != api.OK || len(d) != 3 || !table.Right(d) {
		t.Fatal(e, len(d))
	}
	got := d[0].Parts[1].Def[0]
	if !slices.Equal(got.Names, wide.Names) || len(got.L) != many || &got.L[0] == &wide.L[0] || &got.Names[0] == &wide.Names[0] {
		t.Error("the wide Def is another one, or the same")
	}
	levels := 0
	for y := d[0].Parts[0].Def[0]; len(y.L) == 1; y = y.L[0] {
		if &y.L[0] == &v.L[0] {
			t.Fatal("the deep Def is shared")
		}
		v = v.L[0]
		levels++
	}
	if levels != deepest-10 {
		t.Error(levels)
	}
}

// P14.1, P14.2: a type that is nested more than 40 deep may let nothing in. It has
// a row, but no valid one.
func TestEmptyDeep(t *testing.T) {
	for _, kind := range []int{api.Int, api.Str} {
		x := api.Type{Kind: kind, Con: api.Con{Op: api.Span, Lo: 5, Hi: 4}}
		for depth := 1; depth < 45; depth++ {
			l := []api.Entry{entry("M.A", false, x)}
			if depth <= api.MaxDeep {
				refused(t, l, "M.A", api.ErrEmpty)
			} else {
				d, e := holdLower(t, l, "M.A")
				if last := d[len(d)-1]; e != api.OK || len(d) != depth || len(last.Set) != 0 || last.Lo != 0 || last.Hi != 0 {
					t.Errorf("%s, %d", told(d), e)
				}
				holdRight(t, d, "not empty")
			}
			x = seqOf(x)
		}
	}
}

// P14.3, R1: tables with very long lists.
func TestLongLists(t *testing.T) {
	long := names("a", many)
	var parts []api.Field
	var ranges []api.Range
	for k, s := range long {
		parts = append(parts, api.Field{Name: s})
		ranges = append(ranges, api.Range{Lo: 3 * k, Hi: 3*k + 1})
	}
	for _, x := range []struct {
		r    api.Desc
		want bool
	}{
		{api.Desc{Kind: api.Enum, Names: long}, false}, {api.Desc{Kind: api.Enum, Ext: true, Names: long[:1], More: long[1:]}, false},
		{api.Desc{Kind: api.Seq, Parts: parts}, false}, {api.Desc{Kind: api.Seq, Ext: true, Adds: parts}, false},
		{api.Desc{Kind: api.Choice, Parts: parts, Order: upwards(many)}, false}, {api.Desc{Kind: api.Choice, Parts: parts[:1], Order: upwards(many)}, false},
		{api.Desc{Kind: api.Str, From: strings.Repeat("a", many), Set: set(0, 1), Hi: 1}, false},
		{api.Desc{Kind: api.Int, Set: ranges, Hi: 3*many - 2}, true}, {api.Desc{Kind: api.Octets, Set: ranges, Hi: 3*many - 2}, true}, {api.Desc{Kind: api.Octets, Set: ranges, Hi: 3 * many}, false},
		{api.Desc{Kind: api.Octets, Set: slices.Repeat(set(0, 3), many), Hi: 3}, false},
	} {
		if got := table.Right([]api.Desc{x.r}); got != x.want {
			t.Errorf("%s: %v", shown(x.r)[:100], got)
		}
	}
	var d []api.Desc
	for range 4096 {
		d = append(d, api.Desc{Kind: api.Choice, Ext: true, Parts: parts[:256], Adds: parts[256:512], Order: upwards(256)})
	}
	if !table.Right(d) {
		t.Error("a table as long as it may be is not valid")
	}
	d[4095].Adds[255].T = 4096
	if table.Right(d) {
		t.Error("a table as long as it may be is valid")
	}
}

// R1: numbers and names at their ends.
func TestNumbers(t *testing.T) {
	for _, n := range []int{math.MinInt, math.MaxInt, -1, 0} {
		x := api.Type{Kind: n, Name: "\xff", Con: api.Con{Op: n, Lo: n, Hi: n}, Ext: true, From: "\xff", Names: []string{""}, More: []string{""}}
		x.Parts, x.Adds, x.Elem = []api.Part{{T: x}, {T: x}}, []api.Part{{T: x}}, []api.Type{x}
		for kind := range 13 {
			y := x
			y.Kind = kind
			holdLower(t, []api.Entry{{Module: "\xff", T: y}}, "\xff.")
			holdLower(t, []api.Entry{{Module: "\xff", T: x}, {T: y}}, ".")
		}
		v := api.Value{Kind: n, N: n, S: "\xff"}
		r := api.Desc{Kind: n, Ext: true, Set: set(n, n), Lo: n, Hi: n, From: "\xff", Names: []string{"\xff"}, More: []string{"\xff"}, Parts: []api.Field{{Name: "\xff", T: n, Opt: true, Def: []api.Value{v}}}, Order: []int{n}, Elem: n}
		r.Adds = r.Parts
		for kind := range 13 {
			y := r
			y.Kind = kind
			for _, d := range [][]api.Desc{{r}, {y}, {{}, y, r}} {
				holdRight(t, d, broken(d)...)
				if table.Right(d) {
					t.Error(told(d))
				}
			}
		}
	}
}

// R4, P1: nothing is kept from one call for another, whatever it answers.
func TestNothingKept(t *testing.T) {
	calls := []struct{ entries, name, want string }{
		{"M-A ::= SEQUENCE { a M-B, b M-B }\nM-B ::= NULL", "M.A", "Seq a:1 b:1\nNull"},
		{"M-A ::= SEQUENCE { a M-B, b M-B }\nM-B ::= BOOLEAN", "M.A", "Seq a:1 b:1\nBool"},
		{"M-B ::= CHOICE { a NULL, b M-A }\nM-A ::= BOOLEAN", "M.B", "Choice a:1 b:2 <1 0>\nNull\nBool"},
		{"auto M-B ::= CHOICE { a NULL, b M-A }\nM-A ::= BOOLEAN", "M.B", "Choice a:1 b:2 <0 1>\nNull\nBool"},
		{"M-A ::= NULL", "M.B", ""},
		{"M-A ::= SEQUENCE { a NULL, b M-B OPTIONAL }", "M.A", ""},
		{"M-A ::= M-A", "M.A", ""},
	}
	for first := range calls {
		for second := range calls {
			for _, k := range []int{first, second, first} {
				if d, _ := holdLower(t, entries(t, calls[k].entries), calls[k].name); told(d) != calls[k].want {
					t.Errorf("%s: %s", calls[k].entries, told(d))
				}
			}
		}
	}
}
