package table_test

import (
	"fmt"
	"math"
	"slices"
	"testing"

	"spandrel/api"
	"spandrel/table"
)

// P14.1: each error that there is before rows are created.
func TestRefused(t *testing.T) {
	l := entries(t, "M-A ::= NULL\nM-B ::= SEQUENCE { a M-A }")
	for _, name := range []string{"", ".", "A", "M", "M.", ".A", "MA", "M-A", "M.C", "N.A", "m.a", "M.A ", " M.A", "M.A.", "M..A", "M.a", "M.A\x00", "NULL", "\xff"} {
		refused(t, l, name, api.ErrName)
		refused(t, nil, name, api.ErrName)
		refused(t, []api.Entry{}, name, api.ErrName)
	}
	for text, want := range map[string]api.Errno{
		// Types that are not finite.
		"M-A ::= M-A":                                      api.ErrDeep,
		"M-A ::= M-B\nM-B ::= M-A":                         api.ErrDeep,
		"M-A ::= M-B\nM-B ::= M-C\nM-C ::= M-B":            api.ErrDeep,
		"M-A ::= M-Gone":                                   api.ErrDeep,
		"M-A ::= M-B\nM-B ::= M-C\nM-C ::= M-Gone":         api.ErrDeep,
		"M-A ::= SEQUENCE { a M-A }":                       api.ErrDeep,
		"M-A ::= SEQUENCE { a M-Gone }":                    api.ErrDeep,
		"M-A ::= CHOICE { a M-A }":                         api.ErrDeep,
		"M-A ::= SEQUENCE (SIZE (1)) OF M-A":               api.ErrDeep,
		"M-A ::= SEQUENCE (SIZE (1)) OF M-Gone":            api.ErrDeep,
		"M-A ::= SEQUENCE { a M-B OPTIONAL }\nM-B ::= M-B": api.ErrDeep,
		"M-A ::= NULL\nM-B ::= M-B":                        api.ErrDeep,
		"M-A ::= NULL\nM-A ::= M-B\nM-B ::= M-Gone":        api.ErrDeep,
		// Refs that are round, but not from the first entry of a name on.
		"M-A ::= NULL\nM-A ::= M-A":              api.OK,
		"M-A ::= M-B\nM-B ::= NULL\nM-B ::= M-A": api.OK,
		// Tags that are not apart.
		"M-A ::= CHOICE { a NULL, b NULL }":                                 api.ErrTag,
		"auto M-A ::= CHOICE { a NULL, b NULL }":                            api.OK,
		"M-A ::= SEQUENCE { a NULL OPTIONAL, b NULL }":                      api.ErrTag,
		"M-A ::= SEQUENCE { a M-B OPTIONAL, b NULL }\nM-B ::= NULL":         api.ErrTag,
		"M-A ::= NULL\nM-B ::= CHOICE { a NULL, b NULL }":                   api.ErrTag,
		"M-A ::= NULL\nM-A ::= CHOICE { a NULL, b NULL }":                   api.ErrTag,
		"M-A ::= SEQUENCE OF SEQUENCE { a CHOICE { a NULL, ..., b NULL } }": api.ErrTag,
		// Constraints that let nothing in.
		"M-A ::= INTEGER (5..4)":                                             api.ErrEmpty,
		"M-A ::= INTEGER (5 EXCEPT 5)":                                       api.ErrEmpty,
		"M-A ::= INTEGER (-1, ...)":                                          api.OK,
		"M-A ::= INTEGER (5..4, ...)":                                        api.ErrEmpty,
		"M-A ::= BIT STRING (SIZE (-1))":                                     api.ErrEmpty,
		"M-A ::= OCTET STRING (SIZE (MIN..-1))":                              api.ErrEmpty,
		"M-A ::= IA5String (SIZE (1 ^ 2))":                                   api.ErrEmpty,
		"M-A ::= SEQUENCE (SIZE (-5..-1)) OF NULL":                           api.ErrEmpty,
		"M-A ::= SEQUENCE (SIZE (0)) OF INTEGER (5..4)":                      api.ErrEmpty,
		"M-A ::= SEQUENCE { a SEQUENCE { ..., b INTEGER (5..4) OPTIONAL } }": api.ErrEmpty,
		"M-A ::= NULL\nM-B ::= INTEGER (5..4)":                               api.ErrEmpty,
		"M-A ::= NULL\nM-A ::= SEQUENCE OF INTEGER (5..4)":                   api.ErrEmpty,
	} {
		if want != api.OK {
			refused(t, entries(t, text), "M.A", want)
			refused(t, entries(t, "X-Y ::= SEQUENCE OF X-Y\n"+text), "X.Y", want)
			continue
		}
		if _, e := holdLower(t, entries(t, text), "M.A"); e != api.OK {
			t.Errorf("%s: %d", text, e)
		}
	}
}

// P14.1: any of the errors at once, of which the first one is answered.
func TestFirstError(t *testing.T) {
	faults := []struct {
		text string
		e    api.Errno
	}{
		{"", api.ErrName},
		{"F-A ::= SEQUENCE { a F-A }", api.ErrDeep},
		{"T-A ::= CHOICE { a NULL, b NULL }", api.ErrTag},
		{"E-A ::= OCTET STRING (SIZE (5..4))", api.ErrEmpty},
	}
	wrong := map[api.Errno]api.Type{
		api.ErrName: ref("M.Gone"), api.ErrArg: {Kind: 12}, api.OK: {Kind: api.Null},
	}
	for set := range 1 << len(faults) {
		for e, x := range wrong {
			l := []api.Entry{entry("M.A", true, api.Type{Kind: api.Seq, Parts: []api.Part{part("a", api.Type{Kind: api.Bool}), optional("b", x)}})}
			want := e
			for k := len(faults) - 1; k >= 0; k-- {
				if set>>k&1 == 1 {
					want = faults[k].e
					// Some ahead of the others, some behind them.
					if k%2 == 0 {
						l = append(l, entries(t, faults[k].text)...)
					} else {
						l = append(entries(t, faults[k].text), l...)
					}
				}
			}
			name := "M.A"
			if set&1 == 1 {
				name = "M.B"
			}
			for range 2 {
				if d, got := holdLower(t, l, name); got != want || got != api.OK && d != nil {
					t.Errorf("%s of %s: %d, not %d", name, shown(l), got, want)
				}
				slices.Reverse(l)
			}
		}
	}
	// Two in the same type.
	for text, want := range map[string]api.Errno{
		"M-A ::= CHOICE { a INTEGER (5..4), b INTEGER }":        api.ErrTag,
		"auto M-A ::= CHOICE { a INTEGER (5..4), b INTEGER }":   api.ErrEmpty,
		"M-A ::= SEQUENCE { a INTEGER (5..4), b M-A }":          api.ErrDeep,
		"M-A ::= SEQUENCE { a NULL OPTIONAL, b NULL, c M-A }":   api.ErrDeep,
		"M-A ::= CHOICE { a NULL, b NULL, c M-Gone }":           api.ErrTag,
		"M-A ::= CHOICE { a NULL, b M-Gone, c INTEGER (5..4) }": api.ErrEmpty,
		"M-A ::= CHOICE { a NULL, b M-Gone }":                   api.ErrName,
	} {
		refused(t, entries(t, text), "M.A", want)
	}
}

// wrongTypes are types that have no rows, with their errors, and rightTypes are
// types that have.
func wrongTypes() map[string]api.Type {
	null := api.Type{Kind: api.Null}
	return map[string]api.Type{
		"7 a Ref":                 ref("M.Gone"),
		"7 a Ref of no name":      ref(""),
		"1 Kind 0":                {},
		"1 Kind 12":               {Kind: 12},
		"1 Kind -1":               {Kind: -1},
		"1 Kind 2^32 + 1":         {Kind: 1<<32 + 1},
		"1 the least Kind":        {Kind: math.MinInt},
		"1 the greatest Kind":     {Kind: math.MaxInt},
		"1 a SeqOf of nothing":    {Kind: api.SeqOf},
		"1 a SeqOf of two":        {Kind: api.SeqOf, Elem: []api.Type{null, null}},
		"1 a SeqOf of many":       {Kind: api.SeqOf, Elem: slices.Repeat([]api.Type{null}, 7)},
		"1 Kind 0, with a Ref":    {Parts: []api.Part{part("a", ref("M.Gone"))}},
		"1 a SeqOf, with a Ref":   {Kind: api.SeqOf, Parts: []api.Part{part("a", ref("M.Gone"))}, Adds: []api.Part{part("b", ref("M.Gone"))}},
		"1 a SeqOf of two Refs":   {Kind: api.SeqOf, Elem: []api.Type{ref("M.Gone"), ref("M.Gone")}},
		"7 a SeqOf of a Ref":      {Kind: api.SeqOf, Elem: []api.Type{ref("M.Gone")}},
		"7 a Seq":                 {Kind: api.Seq, Parts: []api.Part{optional("a", ref("M.Gone")), part("b", api.Type{})}},
		"1 a Seq":                 {Kind: api.Seq, Parts: []api.Part{part("a", api.Type{}), optional("b", ref("M.Gone"))}},
		"7 Adds":                  {Kind: api.Seq, Adds: []api.Part{part("a", ref("M.Gone")), part("b", api.Type{})}},
		"1 Adds":                  {Kind: api.Seq, Adds: []api.Part{part("a", api.Type{}), part("b", ref("M.Gone"))}},
		"1 Parts before Adds":     {Kind: api.Seq, Parts: []api.Part{part("a", api.Type{})}, Adds: []api.Part{part("b", ref("M.Gone"))}},
		"7 Adds before Elem":      {Kind: api.SeqOf, Adds: []api.Part{part("b", ref("M.Gone"))}, Elem: []api.Type{{}}},
		"1 Parts before Elem":     {Kind: api.SeqOf, Parts: []api.Part{part("b", api.Type{})}, Elem: []api.Type{ref("M.Gone")}},
		"7 a part of a BOOLEAN":   {Kind: api.Bool, Parts: []api.Part{part("a", ref("M.Gone"))}},
		"1 an addition to NULL":   {Kind: api.Null, Adds: []api.Part{part("a", api.Type{Kind: 77})}},
		"7 an INTEGER's addition": {Kind: api.Int, Adds: []api.Part{part("a", ref("M.Gone"))}, Elem: []api.Type{{}}},
	}
}

func rightTypes() []api.Type {
	return []api.Type{
		{Kind: api.Null}, ref("M.Right"), {Kind: api.Seq, Elem: []api.Type{{Kind: 77}}}, seqOf(api.Type{Kind: api.Bool}),
		{Kind: api.Seq, Parts: []api.Part{optional("a", ref("M.Right")), part("b", ref("M.A"))}},
	}
}

// errorOf is the error of the name of a wrong type.
func errorOf(name string) api.Errno { return api.Errno(name[0] - '0') }

// P14.1: each error while rows are created, alone, at each place, ahead of others
// and behind them.
func TestRowErrors(t *testing.T) {
	right := entry("M.Right", false, api.Type{Kind: api.Enum, Names: []string{"a"}})
	holdParts := func(want api.Errno, l ...api.Type) {
		t.Helper()
		// All are optional, so that all is finite.
		x := api.Type{Kind: api.Seq}
		for k, of := range l {
			x.Parts = append(x.Parts, optional(fmt.Sprint("p", k), of))
		}
		for first := range len(l) + 1 {
			y := api.Type{Kind: api.Seq, Parts: x.Parts[:first], Adds: x.Parts[first:]}
			for _, all := range [][]api.Entry{
				{entry("M.A", true, y), right},
				{right, entry("M.A", true, seqOf(y))},
				{entry("M.A", true, api.Type{Kind: api.Seq, Parts: []api.Part{optional("a", seqOf(ref("M.B"))), part("b", ref("M.Right"))}}), right, entry("M.B", true, y)},
			} {
				if want != api.OK {
					refused(t, all, "M.A", want)
				} else if _, e := holdLower(t, all, "M.A"); e != api.OK {
					t.Fatalf("%s: %d", shown(all), e)
				}
			}
		}
	}
	for name, x := range wrongTypes() {
		holdParts(errorOf(name), x)
		// Where it is not used, nothing is wrong.
		lowered(t, []api.Entry{entry("M.A", true, wide(1, x)), right}, "M.Right", "Enum a")
		for _, y := range rightTypes() {
			holdParts(api.OK, y)
			holdParts(errorOf(name), y, x)
			holdParts(errorOf(name), x, y)
			holdParts(errorOf(name), y, y, x, y)
		}
		for other, y := range wrongTypes() {
			holdParts(errorOf(other), y, x)
		}
	}
}

// P14.1: as the type of the entry itself.
func TestEntryErrors(t *testing.T) {
	for name, x := range wrongTypes() {
		want := errorOf(name)
		if x.Kind == api.Ref {
			want = api.ErrDeep
		}
		for _, auto := range []bool{false, true} {
			l := []api.Entry{entry("M.B", auto, ref("M.A")), entry("M.A", auto, x)}
			refused(t, l, "M.A", want)
			refused(t, l, "M.B", want)
		}
	}
}

// wide is a Seq with as many parts of a type.
func wide(count int, x api.Type) api.Type {
	y := api.Type{Kind: api.Seq}
	for k := range count {
		y.Parts = append(y.Parts, optional(fmt.Sprint("a", k), x))
	}
	return y
}

// P14.1: 4096 rows, and one more, whatever they are.
func TestMostRows(t *testing.T) {
	null := api.Type{Kind: api.Null}
	deep := func(count int, x api.Type) api.Type {
		for range count {
			x = seqOf(x)
		}
		return x
	}
	chain := func(count int, link func(api.Type) api.Type) []api.Entry {
		var l []api.Entry
		for k := range count {
			l = append(l, entry(fmt.Sprint("M.", k), true, link(ref(fmt.Sprint("M.", k+1)))))
		}
		l[0].Name = "A"
		l[count-1].T = null
		return l
	}
	inChoice := func(x api.Type) api.Type { return api.Type{Kind: api.Choice, Parts: []api.Part{part("a", x)}} }
	inSeq := func(x api.Type) api.Type { return api.Type{Kind: api.Seq, Parts: []api.Part{optional("a", x)}} }
	for k, make := range []func(rows int) []api.Entry{
		func(rows int) []api.Entry { return []api.Entry{entry("M.A", true, wide(rows-1, null))} },
		func(rows int) []api.Entry {
			x := wide(rows-1, null)
			return []api.Entry{entry("M.A", true, api.Type{Kind: api.Seq, Parts: x.Parts[:1000], Adds: x.Parts[1000:]})}
		},
		func(rows int) []api.Entry { return []api.Entry{entry("M.A", true, deep(rows-1, null))} },
		func(rows int) []api.Entry { return []api.Entry{entry("M.A", true, deep(rows-1001, wide(1000, null)))} },
		func(rows int) []api.Entry { return chain(rows, inChoice) },
		func(rows int) []api.Entry { return chain(rows, inSeq) },
		func(rows int) []api.Entry { return chain(rows, seqOf) },
		func(rows int) []api.Entry {
			// Refs have no rows of their own.
			x := wide(rows-2, null)
			x.Parts = append(x.Parts, wide(5000, ref("M.B")).Parts...)
			return []api.Entry{entry("M.B", false, ref("M.C")), entry("M.A", true, x), entry("M.C", true, wide(5000, ref("M.A")))}
		},
	} {
		for _, name := range []string{"M.A", "M.Start"} {
			for _, rows := range []int{4095, 4096} {
				l := append(make(rows), entry("M.Start", false, ref("M.A")))
				if d, e := table.Lower(l, name); e != api.OK || len(d) != rows {
					t.Errorf("%d: of %d rows there are %d, %d", k, rows, len(d), e)
				}
			}
			for _, rows := range []int{4097, 4098, 10000} {
				l := append(make(rows), entry("M.Start", false, ref("M.A")))
				if d, e := table.Lower(l, name); e != api.ErrArg || d != nil {
					t.Errorf("%d: of %d rows there are %d, %d", k, rows, len(d), e)
				}
			}
		}
	}
}

// P14.1: what follows 4096 rows.
func TestBehindMostRows(t *testing.T) {
	null := api.Type{Kind: api.Null}
	for _, x := range []struct {
		t    api.Type
		want api.Errno
	}{
		{null, api.ErrArg}, {api.Type{Kind: 12}, api.ErrArg}, {seqOf(null), api.ErrArg}, {api.Type{Kind: api.SeqOf}, api.ErrArg},
		{seqOf(ref("M.Gone")), api.ErrArg}, {ref("M.New"), api.ErrArg}, {ref("M.Wrong"), api.ErrArg},
		{ref("M.Gone"), api.ErrName}, {ref("M.A"), api.OK}, {ref("M.Ref"), api.OK}, {ref("M.Known"), api.OK},
	} {
		for _, adds := range []bool{false, true} {
			y := wide(4095, null)
			y.Parts[17].T = ref("M.Known")
			last := optional("z", x.t)
			if adds {
				y.Adds = append(y.Adds, last)
			} else {
				y.Parts = append(y.Parts, last)
			}
			l := []api.Entry{entry("M.A", true, y), entry("M.Known", true, null), entry("M.New", true, null), entry("M.Ref", true, ref("M.Known")), entry("M.Wrong", true, api.Type{})}
			d, e := holdLower(t, l, "M.A")
			if e != x.want || e == api.OK && len(d) != 4096 || e != api.OK && d != nil {
				t.Errorf("%s: %d rows, %d, not %d", shown(x.t), len(d), e, x.want)
			}
		}
	}
}
