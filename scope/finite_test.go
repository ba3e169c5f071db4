package scope_test

import (
	"fmt"
	"math"
	"slices"
	"testing"

	"spandrel/api"
	"spandrel/scope"
)

// P10.1: types that are finite, and types that are not, over several modules.
func TestErrDeep(t *testing.T) {
	for _, x := range []struct {
		text   string
		finite bool
	}{
		// The chapter's examples.
		{"M: A ::= A", false},
		{"M: A ::= SEQUENCE OF A", true},
		{"M: A ::= B B ::= NULL", true},
		// Refs.
		{"M: A ::= B B ::= A", false},
		{"M: A ::= B B ::= C C ::= B", false},
		{"M: A ::= B B ::= C C ::= SEQUENCE OF A", true},
		{"M: A ::= NULL B ::= B C ::= NULL", false},
		{"M: IMPORTS A FROM N; B ::= A\nN: IMPORTS B FROM M; A ::= B", false},
		{"M: IMPORTS A FROM N; B ::= SEQUENCE { a A OPTIONAL }\nN: IMPORTS B FROM M; A ::= B", true},
		{"M: IMPORTS A FROM N; B ::= A\nN: IMPORTS C FROM O; A ::= C\nO: IMPORTS B FROM M; C ::= B", false},
		{"M: IMPORTS A FROM N; B ::= A\nN: IMPORTS C FROM O; A ::= CHOICE { c C, d NULL }\nO: IMPORTS B FROM M; C ::= B", true},
		{"M: A ::= B B ::= NULL\nN: A ::= B B ::= A", false},
		// Lists.
		{"M: A ::= SEQUENCE (SIZE (0)) OF A", true},
		{"M: A ::= SEQUENCE (SIZE (1)) OF A", false},
		{"M: A ::= SEQUENCE (SIZE (0..5)) OF A", true},
		{"M: A ::= SEQUENCE (SIZE (1..5)) OF A", false},
		{"M: A ::= SEQUENCE (SIZE (1..5, ...)) OF A", false},
		{"M: A ::= SEQUENCE (SIZE (0..MAX)) OF A", true},
		{"M: A ::= SEQUENCE (SIZE (1..MAX)) OF A", false},
		{"M: A ::= SEQUENCE (SIZE (-1..1)) OF A", true},
		{"M: A ::= SEQUENCE (SIZE (-2..-1)) OF A", false},
		{"M: A ::= SEQUENCE (SIZE (MIN..0)) OF A", true},
		{"M: A ::= SEQUENCE (SIZE (MIN..-1)) OF A", true},
		{"M: A ::= SEQUENCE (SIZE (MIN..MAX)) OF A", true},
		{"M: A ::= SEQUENCE (SIZE (0 | 1)) OF A", false},
		{"M: A ::= SEQUENCE (SIZE (0 ^ MIN..MAX)) OF A", false},
		{"M: A ::= SEQUENCE (SIZE (0 EXCEPT 1)) OF A", false},
		{"M: A ::= SEQUENCE (SIZE (0 | 1)) OF B B ::= NULL", true},
		{"M: A ::= SEQUENCE (SIZE (1)) OF SEQUENCE (SIZE (1)) OF A", false},
		{"M: A ::= SEQUENCE (SIZE (1)) OF SEQUENCE OF A", true},
		{"M: A ::= SEQUENCE OF SEQUENCE (SIZE (1)) OF A", true},
		// Sequences.
		{"M: A ::= SEQUENCE { a A }", false},
		{"M: A ::= SEQUENCE { a A OPTIONAL }", true},
		{"M: A ::= SEQUENCE { a A DEFAULT 5 }", true},
		{"M: A ::= SEQUENCE { ..., a A }", true},
		{"M: A ::= SEQUENCE { a NULL, b BOOLEAN, c A }", false},
		{"M: A ::= SEQUENCE { a NULL, b A, c NULL }", false},
		{"M: A ::= SEQUENCE { a A OPTIONAL, b A DEFAULT 5, c NULL, ..., d A, e A }", true},
		{"M: A ::= SEQUENCE { a A OPTIONAL, b A DEFAULT 5, c A, ..., d A }", false},
		{"M: A ::= SEQUENCE { b B, c C } B ::= NULL C ::= SEQUENCE OF A", true},
		{"M: A ::= SEQUENCE { b B, c C } B ::= NULL C ::= A", false},
		{"M: A ::= SEQUENCE { b B, c B, d B } B ::= SEQUENCE { a A OPTIONAL }", true},
		{"M: A ::= SEQUENCE { a SEQUENCE { a A OPTIONAL }, b CHOICE { a A, b NULL } }", true},
		{"M: A ::= SEQUENCE { a SEQUENCE { b A } OPTIONAL }", true},
		{"M: A ::= SEQUENCE { a SEQUENCE { b SEQUENCE { c A } } }", false},
		// Choices.
		{"M: A ::= CHOICE { a A }", false},
		{"M: A ::= CHOICE { a A, b A, c A }", false},
		{"M: A ::= CHOICE { a A, ..., b NULL }", false},
		{"M: A ::= CHOICE { a A, b NULL }", true},
		{"M: A ::= CHOICE { a NULL, b A, c A }", true},
		{"M: A ::= CHOICE { a A, b NULL, c A, d NULL }", true},
		{"M: A ::= CHOICE { a NULL, b NULL }", true},
		{"M: A ::= CHOICE { a NULL, ..., b A }", true},
		{"M: A ::= CHOICE { a SEQUENCE { a A }, b CHOICE { a A } }", false},
		{"M: A ::= CHOICE { a SEQUENCE { a A }, b CHOICE { a A, b NULL } }", true},
		{"M: A ::= CHOICE { a B, b C } B ::= SEQUENCE { a A } C ::= SEQUENCE { b B }", false},
		{"M: A ::= CHOICE { a B, b C } B ::= SEQUENCE { a A } C ::= SEQUENCE { b B OPTIONAL }", true},
		{"M: A ::= CHOICE { a B, b NULL } B ::= SEQUENCE { a A, b C } C ::= SEQUENCE { b B }", false},
		{"M: A ::= CHOICE { a B, b NULL } B ::= SEQUENCE { a A, b C } C ::= SEQUENCE { a A, b B OPTIONAL }", true},
	} {
		if !x.finite {
			checkWrong(t, x.text, api.ErrDeep)
			continue
		}
		got, e := scope.Resolve(modules(t, x.text))
		if e != api.OK || len(got) == 0 {
			t.Errorf("%q: %s %d", x.text, shown(got), e)
		}
		hold(t, modules(t, x.text), got, api.OK)
	}
}

// checkFinite holds what Finite answers for entries against the model, too.
func checkFinite(t *testing.T, l []api.Entry, want bool) {
	t.Helper()
	before := fmt.Sprintf("%#v", l)
	if got, model := scope.Finite(l), modelFinite(l); got != want || model != want {
		t.Fatalf("%s: %v, the model says %v, not %v", shown(l), got, model, want)
	}
	if fmt.Sprintf("%#v", l) != before {
		t.Fatalf("%.3000s has become %s", before, shown(l))
	}
}

// ref is a Ref, and entry an entry.
func ref(name string) api.Type { return api.Type{Kind: api.Ref, Name: name} }
func entry(module, name string, x api.Type) api.Entry {
	return api.Entry{Module: module, Name: name, T: x}
}

// The types of the tests that follow: one that is finite, the type that is
// checked itself, and one that nothing names.
var (
	finite  = ref("M.F")
	itself  = ref("M.T")
	unknown = ref("M.X")
)

// checkType holds what Finite answers for a type, alone and among others. It may
// name itself, and another type that is finite.
func checkType(t *testing.T, x api.Type, want bool) {
	t.Helper()
	l := []api.Entry{
		entry("M", "T", x), entry("M", "F", api.Type{Kind: api.Int}),
		entry("M", "L", api.Type{Kind: api.SeqOf, Elem: []api.Type{itself}}), entry("N", "T", finite),
	}
	checkFinite(t, l, want)
	checkFinite(t, l[:2], want)
	slices.Reverse(l)
	checkFinite(t, l, want)
}

// P10.2: lists, with each way to admit 0 directly, and with none of them.
func TestFiniteLists(t *testing.T) {
	const least, most = math.MinInt, math.MaxInt
	span := api.Con{Op: api.Span}
	for _, x := range []struct {
		c     api.Con
		empty bool
	}{
		{api.Con{}, true}, {api.Con{Lo: 5, Hi: 4, L: []api.Con{span}}, true}, {api.Con{Lo: 1, Hi: most}, true}, {api.Con{Hi: -1}, true},
		{span, true}, {api.Con{Op: 1, Lo: 1, Hi: 1}, false}, {api.Con{Op: 1, Lo: -1, Hi: -1}, false}, {api.Con{Op: 1, Hi: 1}, true}, {api.Con{Op: 1, Lo: -1}, true}, {api.Con{Op: 1, Lo: -1, Hi: 1}, true},
		{api.Con{Op: 1, Lo: 1}, false}, {api.Con{Op: 1, Hi: -1}, false}, {api.Con{Op: 1, Lo: 1, Hi: -1}, false}, {api.Con{Op: 1, Lo: least, Hi: most}, true}, {api.Con{Op: 1, Lo: most, Hi: least}, false}, {api.Con{Op: 1, Lo: least, Hi: -1}, false}, {api.Con{Op: 1, Lo: 1, Hi: most}, false},
		{api.Con{Op: 1, High: true}, true}, {api.Con{Op: 1, Lo: -1, High: true}, true}, {api.Con{Op: 1, Lo: least, High: true}, true}, {api.Con{Op: 1, Lo: 1, High: true}, false}, {api.Con{Op: 1, Lo: most, High: true}, false}, {api.Con{Op: 1, Hi: -1, High: true}, true}, {api.Con{Op: 1, Lo: 1, Hi: 5, High: true}, false},
		{api.Con{Op: 1, Low: true}, true}, {api.Con{Op: 1, Low: true, Hi: 5}, true}, {api.Con{Op: 1, Low: true, Hi: -1}, true}, {api.Con{Op: 1, Low: true, Hi: least}, true}, {api.Con{Op: 1, Low: true, High: true}, true}, {api.Con{Op: 1, Low: true, Lo: 1, Hi: 5}, true}, {api.Con{Op: 1, Low: true, Lo: 1, Hi: -1}, true},
		{api.Con{Op: 1, L: []api.Con{{}}}, true}, {api.Con{Op: 1, Lo: 1, Hi: 1, L: []api.Con{span, span}}, false},
		{api.Con{Op: 2, L: []api.Con{span, span}}, false}, {api.Con{Op: 3, L: []api.Con{span, span}}, false}, {api.Con{Op: 4, L: []api.Con{span, span}}, false}, {api.Con{Op: 2, Low: true, High: true}, false}, {api.Con{Op: 3}, false}, {api.Con{Op: 4, Low: true}, false},
		{api.Con{Op: 5}, false}, {api.Con{Op: -1, Low: true, High: true}, false}, {api.Con{Op: most}, false}, {api.Con{Op: least}, false},
	} {
		for _, ext := range []bool{false, true} {
			checkType(t, api.Type{Kind: api.SeqOf, Con: x.c, Ext: ext, Elem: []api.Type{itself}}, x.empty)
			checkType(t, api.Type{Kind: api.SeqOf, Con: x.c, Ext: ext, Elem: []api.Type{unknown}}, x.empty)
			checkType(t, api.Type{Kind: api.SeqOf, Con: x.c, Ext: ext, Elem: []api.Type{finite}}, true)
			checkType(t, api.Type{Kind: api.SeqOf, Con: x.c, Ext: ext, Elem: []api.Type{{Kind: api.Null}}}, true)
			// One element exactly.
			checkType(t, api.Type{Kind: api.SeqOf, Con: x.c, Ext: ext}, x.empty)
			checkType(t, api.Type{Kind: api.SeqOf, Con: x.c, Ext: ext, Elem: []api.Type{finite, finite}}, x.empty)
			checkType(t, api.Type{Kind: api.SeqOf, Con: x.c, Ext: ext, Elem: []api.Type{finite, itself}}, x.empty)
		}
	}
}

// part is a part of a type.
func part(x api.Type) api.Part { return api.Part{Name: "a", T: x} }

// P10.2: sequences, in which only parts that must be there count, and choices,
// in which one is enough.
func TestFiniteParts(t *testing.T) {
	value := []api.Value{{}}
	f, i, u := part(finite), part(itself), part(unknown)
	optional, usual, both, many := api.Part{T: itself, Opt: true}, api.Part{T: itself, Def: value}, api.Part{T: itself, Opt: true, Def: value}, api.Part{T: unknown, Def: append(value, value...)}
	noDefault := api.Part{T: itself, Def: []api.Value{}}
	all := []api.Part{f, i, u, optional, usual, both, many, noDefault}
	for _, x := range []struct {
		parts       []api.Part
		seq, choice bool
	}{
		{nil, true, false}, {[]api.Part{}, true, false},
		{[]api.Part{f}, true, true}, {[]api.Part{i}, false, false}, {[]api.Part{u}, false, false}, {[]api.Part{f, f, f}, true, true}, {[]api.Part{i, u, i}, false, false},
		{[]api.Part{f, i}, false, true}, {[]api.Part{i, f}, false, true}, {[]api.Part{i, f, u}, false, true}, {[]api.Part{f, u, f}, false, true}, {[]api.Part{f, f, i}, false, true},
		{[]api.Part{optional}, true, false}, {[]api.Part{usual}, true, false}, {[]api.Part{both}, true, false}, {[]api.Part{many}, true, false}, {[]api.Part{noDefault}, false, false},
		{[]api.Part{optional, usual, both, many}, true, false}, {[]api.Part{optional, f, usual}, true, true}, {[]api.Part{optional, i, usual}, false, false}, {all, false, true},
		{[]api.Part{{T: finite, Opt: true}}, true, true}, {[]api.Part{i, {T: finite, Def: value}}, false, true},
	} {
		// What has been added, and what no field of the Kind is, does not count.
		for _, adds := range [][]api.Part{nil, {f}, {i}, {u, f}, all} {
			for _, elem := range [][]api.Type{nil, {itself}, {finite}} {
				checkType(t, api.Type{Kind: api.Seq, Parts: x.parts, Adds: adds, Elem: elem, Name: "M.F"}, x.seq)
				checkType(t, api.Type{Kind: api.Choice, Parts: x.parts, Adds: adds, Elem: elem, Name: "M.F", Ext: true}, x.choice)
				checkType(t, api.Type{Kind: api.SeqOf, Parts: x.parts, Adds: adds, Elem: []api.Type{itself}, Con: api.Con{Op: api.Union}}, false)
			}
		}
	}
	// All other kinds are finite.
	for _, kind := range []int{0, 1, 2, 3, 4, 5, 6, 7, 12, 13, 100, -1, math.MinInt, math.MaxInt} {
		checkType(t, api.Type{Kind: kind, Name: "M.T", Con: api.Con{Op: 2}, Parts: all, Adds: all, Elem: []api.Type{itself}}, true)
	}
}

// P10.2: Refs that Find does not find, and entries that have the same name.
func TestFiniteRefs(t *testing.T) {
	checkFinite(t, nil, true)
	checkFinite(t, []api.Entry{}, true)
	checkFinite(t, []api.Entry{{}}, true)
	for _, name := range []string{"", ".", "T", "M", "M.", ".T", "M.T.", "M.TT", "M..T", "MM.T", "m.t", "N.T.T", " M.T"} {
		checkType(t, ref(name), false)
		checkType(t, api.Type{Kind: api.SeqOf, Elem: []api.Type{ref(name)}}, true)
	}
	checkType(t, finite, true)
	checkType(t, itself, false)
	checkType(t, api.Type{Kind: api.Ref, Name: "M.F", Parts: []api.Part{part(itself)}, Elem: []api.Type{itself}}, true)
	checkType(t, api.Type{Kind: api.Ref, Name: "M.T", Parts: []api.Part{part(finite)}, Elem: []api.Type{finite}}, false)
	null := api.Type{Kind: api.Null}
	for _, x := range []struct {
		l    []api.Entry
		want bool
	}{
		// The first one of a name counts, but each one must be finite.
		{[]api.Entry{entry("M", "T", null), entry("M", "T", itself)}, true},
		{[]api.Entry{entry("M", "T", itself), entry("M", "T", null)}, false},
		{[]api.Entry{entry("M", "T", null), entry("M", "T", unknown)}, false},
		{[]api.Entry{entry("M", "T", null), entry("M", "T", itself), entry("M", "U", itself)}, true},
		{[]api.Entry{entry("M", "U", itself), entry("M", "T", itself), entry("M", "T", null)}, false},
		{[]api.Entry{entry("M", "U", itself), entry("M", "T", null), entry("M", "T", itself)}, true},
		{[]api.Entry{entry("M", "T", null), entry("M", "T", null), entry("M", "T", itself)}, true},
		// Names without letters, and with more than one dot.
		{[]api.Entry{entry("", "", null), entry("M", "T", ref("."))}, true},
		{[]api.Entry{entry("", "", ref("."))}, false},
		{[]api.Entry{entry("", "", ref(""))}, false},
		{[]api.Entry{entry("M", "", null), entry("", "T", ref("M."))}, true},
		{[]api.Entry{entry("M.N", "O", null), entry("M", "N.O", ref("M.N.O"))}, true},
		{[]api.Entry{entry("M", "N.O", ref("M.N.O")), entry("M.N", "O", null)}, false},
		{[]api.Entry{entry("M.T", "", null), entry("M", "T", ref("M.T."))}, true},
	} {
		checkFinite(t, x.l, x.want)
	}
}

// R1: types nested much deeper than those that are well-formed, very many parts,
// and very many entries. The model takes too long for them.
func TestLargeTypes(t *testing.T) {
	one := api.Con{Op: api.Span, Lo: 1, Hi: 1}
	wraps := []func(api.Type) api.Type{
		func(x api.Type) api.Type { return api.Type{Kind: api.Seq, Parts: []api.Part{part(x)}} },
		func(x api.Type) api.Type { return api.Type{Kind: api.Choice, Parts: []api.Part{part(x)}} },
		func(x api.Type) api.Type { return api.Type{Kind: api.SeqOf, Con: one, Elem: []api.Type{x}} },
	}
	for way := range len(wraps) + 1 {
		for _, inmost := range []api.Type{finite, itself, unknown} {
			x, want := inmost, inmost.Name == finite.Name
			for level := range 1<<16 - 2 {
				w := wraps[level%len(wraps)]
				if way < len(wraps) {
					w = wraps[way]
				}
				x = w(x)
			}
			l := []api.Entry{entry("M", "T", x), entry("M", "F", api.Type{})}
			if got := scope.Finite(l); got != want {
				t.Errorf("%d, %s: %v", way, inmost.Name, got)
			}
			if _, e := scope.Resolve([]api.Module{{Name: "M", Defs: []api.Def{{Name: "T", T: x}}}}); e != api.ErrArg {
				t.Errorf("%d, %s: %d", way, inmost.Name, e)
			}
		}
	}
	const n = 1 << 17
	parts := slices.Repeat([]api.Part{part(finite)}, n)
	last := append(slices.Clone(parts), part(itself))
	with := func(name string, kind int, parts []api.Part) []api.Entry {
		return []api.Entry{entry("M", name, api.Type{}), entry("M", "P", api.Type{Kind: kind, Parts: parts})}
	}
	var chain []api.Entry
	for k := range n {
		chain = append(chain, entry("M", fmt.Sprint(k), ref(fmt.Sprintf("M.%d", k+1))))
	}
	end := entry("M", fmt.Sprint(n), api.Type{})
	turned := append(slices.Clone(chain), end)
	slices.Reverse(turned)
	for k, x := range []struct {
		l    []api.Entry
		want bool
	}{
		{with("F", api.Seq, parts), true},
		{with("F", api.Seq, last), false},
		{with("F", api.Choice, last), true},
		{with("T", api.Choice, last), true},
		{with("T", api.Choice, parts), false},
		{chain, false},
		{append(slices.Clone(chain), end), true},
		{turned, true},
		{turned[1:], false},
	} {
		if got := scope.Finite(x.l); got != x.want {
			t.Errorf("%d: %v", k, got)
		}
	}
}
