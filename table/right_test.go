package table_test

import (
	"fmt"
	"math"
	"slices"
	"testing"

	"spandrel/api"
	"spandrel/table"
)

// fields are parts, one for each row that is told.
func fields(rows ...int) []api.Field {
	var l []api.Field
	for k, row := range rows {
		l = append(l, api.Field{Name: fmt.Sprint("f", k), T: row})
	}
	return l
}

// set is a set of ranges, of which the ends are given.
func set(ends ...int) []api.Range {
	var l []api.Range
	for k := 0; k < len(ends); k += 2 {
		l = append(l, api.Range{Lo: ends[k], Hi: ends[k+1]})
	}
	return l
}

// withEnds is a row with a Set, and its ends.
func withEnds(r api.Desc, ends ...int) api.Desc {
	r.Set, r.Lo, r.Hi = set(ends...), 0, 0
	if len(ends) > 0 {
		r.Lo, r.Hi = ends[0], ends[len(ends)-1]
	}
	return r
}

// valid is a table with rows of each Kind.
func valid() []api.Desc {
	d := []api.Desc{
		{Kind: api.Bool}, {Kind: api.Null},
		withEnds(api.Desc{Kind: api.Int}, 3, 5, 7, 9), withEnds(api.Desc{Kind: api.Int, Ext: true}, 3, 5),
		withEnds(api.Desc{Kind: api.Bits}, 3, 5, 7, 9), withEnds(api.Desc{Kind: api.Bits, Ext: true}, 3, 5),
		withEnds(api.Desc{Kind: api.Octets}, 3, 5, 7, 9), withEnds(api.Desc{Kind: api.Octets, Ext: true}, 3, 5),
		withEnds(api.Desc{Kind: api.Str}, 3, 5, 7, 9), withEnds(api.Desc{Kind: api.Str, Ext: true, From: "abz"}, 3, 5),
		withEnds(api.Desc{Kind: api.SeqOf, Elem: 1}, 3, 5, 7, 9), withEnds(api.Desc{Kind: api.SeqOf, Ext: true, Elem: 16}, 3, 5),
		{Kind: api.Enum, Names: []string{"x", "y"}}, {Kind: api.Enum, Ext: true, Names: []string{"x"}, More: []string{"z", "y"}},
		{Kind: api.Seq, Parts: fields(1, 0)}, {Kind: api.Seq, Ext: true, Parts: fields(3, 4, 5, 16)[:3:3], Adds: fields(0, 0, 0, 15, 2, 2)[3:]},
		{Kind: api.Choice, Parts: fields(16, 0), Order: []int{1, 0}}, {Kind: api.Choice, Ext: true, Parts: fields(1, 2), Adds: fields(0, 0, 0, 7)[2:], Order: []int{0, 1}},
	}
	d[15].Parts[0].Opt, d[15].Parts[1].Def = true, []api.Value{{Kind: api.Int, N: 5}}
	d[15].Adds[0].Opt, d[15].Adds[1].Def = true, []api.Value{{Kind: api.Int, N: 5}}
	return d
}

// Kinds of rows.
var (
	everyKind    = []int{1, 2, 3, 4, 5, 6, 7, 8, 9, 10}
	withoutSet   = []int{api.Bool, api.Enum, api.Null, api.Seq, api.Choice}
	withSize     = []int{api.Bits, api.Octets, api.Str, api.SeqOf}
	onlySeq      = []int{api.Seq}
	onlyChoice   = []int{api.Choice}
	onlyEnum     = []int{api.Enum}
	onlySeqOf    = []int{api.SeqOf}
	onlyStr      = []int{api.Str}
	onlyInt      = []int{api.Int}
	withoutParts = []int{1, 2, 3, 4, 5, 6, 7, 9}
)

// except are the Kinds without one.
func except(kind int) []int {
	return slices.DeleteFunc(slices.Clone(everyKind), func(k int) bool { return k == kind })
}

// change is a change of rows of some Kinds, and the conditions that it breaks.
type change struct {
	kinds  []int
	change func(r *api.Desc)
	breaks []string
}

// hold holds that each row of these Kinds, so changed, breaks the conditions.
func (c change) hold(t *testing.T) {
	t.Helper()
	changed := 0
	for k := range valid() {
		d := valid()
		if !slices.Contains(c.kinds, d[k].Kind) {
			continue
		}
		c.change(&d[k])
		holdRight(t, d, c.breaks...)
		changed++
		// In a table in which other rows are changed likewise, too.
		for other := range d {
			if other != k && slices.Contains(c.kinds, valid()[other].Kind) {
				c.change(&d[other])
			}
		}
		holdRight(t, d, c.breaks...)
	}
	if changed == 0 {
		t.Error("no row is changed")
	}
}

// P14.3: a valid table, and each of its rows at each place.
func TestRight(t *testing.T) {
	holdRight(t, valid())
	d := valid()
	for k := range d {
		x := valid()
		x[0], x[k] = x[k], x[0]
		holdRight(t, x)
		if d[k].Kind <= api.Str && d[k].Kind != api.Seq {
			holdRight(t, d[k:k+1])
		}
	}
	// The rows of the chapter's example.
	holdRight(t, []api.Desc{{Kind: api.Seq, Parts: []api.Field{{Name: "a", T: 0, Opt: true}, {Name: "b", T: 1}}}, {Kind: api.Null}})
}

// P14.3: how many rows there are.
func TestRightRows(t *testing.T) {
	holdRight(t, nil, "rows")
	holdRight(t, []api.Desc{}, "rows")
	for _, count := range []int{1, 2, 4095, 4096} {
		holdRight(t, slices.Repeat([]api.Desc{{Kind: api.Null}}, count))
	}
	for _, count := range []int{4097, 4098, 5000, 1 << 16} {
		holdRight(t, slices.Repeat([]api.Desc{{Kind: api.Null}}, count), "rows")
	}
	// Each row counts.
	for _, at := range []int{0, 1, 2047, 4094, 4095} {
		d := slices.Repeat([]api.Desc{{Kind: api.Null}}, 4096)
		d[at].Hi = 1
		holdRight(t, d, "no Hi")
		d[at] = api.Desc{Kind: api.Seq, Parts: fields(4095)}
		holdRight(t, d)
		d[at].Parts[0].T = 4096
		holdRight(t, d, "T")
	}
}

// P14.3: Kinds.
func TestRightKind(t *testing.T) {
	for _, kind := range []int{0, -1, 11, 12, 1<<32 + 1, math.MinInt, math.MaxInt} {
		change{[]int{api.Bool, api.Null}, func(r *api.Desc) { r.Kind = kind }, []string{"kind"}}.hold(t)
		holdRight(t, []api.Desc{{Kind: kind}}, "kind")
		for k := range valid() {
			d := valid()
			d[k].Kind = kind
			if table.Right(d) || len(broken(d)) == 0 {
				t.Errorf("%s", told(d))
			}
		}
	}
}

// P14.3: the Set, Lo and Hi of Kinds that have them.
func TestRightSet(t *testing.T) {
	for _, x := range []struct {
		kinds  []int
		ends   []int
		breaks []string
	}{
		{withSet, []int{0, 0}, nil}, {withSet, []int{0, math.MaxInt}, nil}, {withSet, []int{5, 5}, nil}, {withSet, []int{math.MaxInt, math.MaxInt}, nil}, {withSet, []int{1, 1, 3, 3, 5, math.MaxInt}, nil},
		{withSet, []int{0, 0, 2, math.MaxInt - 2, math.MaxInt, math.MaxInt}, nil},
		{onlyInt, []int{math.MinInt, math.MaxInt}, nil}, {onlyInt, []int{-1, -1}, nil}, {onlyInt, []int{-9, -5, -3, 7}, nil}, {onlyInt, []int{math.MinInt, math.MinInt, math.MaxInt, math.MaxInt}, nil},
		{withSize, []int{-1, 5}, []string{"Lo of a size"}}, {withSize, []int{-1, -1}, []string{"Lo of a size"}}, {withSize, []int{math.MinInt, math.MaxInt}, []string{"Lo of a size"}}, {withSize, []int{-9, -9, 5, 5}, []string{"Lo of a size"}},
		{withSet, nil, []string{"not empty"}},
		// Not normalized.
		{withSet, []int{3, 4, 5, 6}, []string{"normalized"}}, {withSet, []int{3, 5, 5, 6}, []string{"normalized"}}, {withSet, []int{3, 6, 4, 9}, []string{"normalized"}}, {withSet, []int{3, 9, 4, 9}, []string{"normalized"}},
		{withSet, []int{3, 4, 3, 4}, []string{"normalized"}}, {withSet, []int{3, 3, 1, 1, 9, 9}, []string{"normalized"}}, {withSet, []int{3, 3, 7, 7, 5, 5, 9, 9}, []string{"normalized"}}, {withSet, []int{3, 3, 6, 5, 9, 9}, []string{"normalized"}},
		{withSet, []int{3, 3, 5, 4, 5, 9}, []string{"normalized"}}, {withSet, []int{5, 4}, []string{"normalized"}}, {withSet, []int{9, 5, 5, 9}, []string{"normalized"}}, {withSet, []int{0, math.MaxInt - 1, math.MaxInt, math.MaxInt}, []string{"normalized"}},
		{withSet, []int{0, math.MaxInt, math.MaxInt, math.MaxInt}, []string{"normalized"}}, {withSet, []int{7, 9, 3, 5}, []string{"normalized"}}, {withSet, []int{0, -1}, []string{"normalized"}},
		{onlyInt, []int{math.MinInt, math.MinInt, math.MinInt + 1, 5}, []string{"normalized"}}, {onlyInt, []int{math.MaxInt, math.MinInt}, []string{"normalized"}}, {onlyInt, []int{math.MaxInt, math.MaxInt, math.MinInt, math.MinInt}, []string{"normalized"}},
	} {
		change{x.kinds, func(r *api.Desc) { *r = withEnds(*r, x.ends...) }, x.breaks}.hold(t)
	}
	for _, by := range []int{1, -1, 2, -3, 1000, math.MinInt} {
		change{withSet, func(r *api.Desc) { r.Hi += by }, []string{"Hi"}}.hold(t)
		if by >= -3 {
			change{withSet, func(r *api.Desc) { r.Lo += by }, []string{"Lo"}}.hold(t)
		}
		change{onlyInt, func(r *api.Desc) { r.Lo += by }, []string{"Lo"}}.hold(t)
		change{withSet, func(r *api.Desc) { r.Set, r.Lo, r.Hi = nil, 5, 9 }, []string{"not empty"}}.hold(t)
	}
	change{withSet, func(r *api.Desc) { r.Lo, r.Hi = r.Hi, r.Lo }, []string{"Lo", "Hi"}}.hold(t)
	change{withSet, func(r *api.Desc) { r.Lo, r.Hi = 0, 0 }, []string{"Lo", "Hi"}}.hold(t)
	change{withSize, func(r *api.Desc) { r.Lo = -1 }, []string{"Lo", "Lo of a size"}}.hold(t)
	// An inner end is none.
	change{withSet, func(r *api.Desc) { *r = withEnds(*r, 3, 5, 7, 9); r.Hi = 5 }, []string{"Hi"}}.hold(t)
	change{withSet, func(r *api.Desc) { *r = withEnds(*r, 3, 5, 7, 9); r.Lo = 7 }, []string{"Lo"}}.hold(t)
}

// P14.3: no Set, Lo and Hi of Kinds that have none.
func TestRightNoSet(t *testing.T) {
	for _, ends := range [][]int{{0, 0}, {5, 4}, {0, 7}, {math.MinInt, math.MaxInt}} {
		change{withoutSet, func(r *api.Desc) { r.Set = set(ends...) }, []string{"no set"}}.hold(t)
	}
	change{withoutSet, func(r *api.Desc) { r.Set = []api.Range{} }, nil}.hold(t)
	for _, n := range []int{1, -1, 7, math.MinInt, math.MaxInt} {
		change{withoutSet, func(r *api.Desc) { r.Lo = n }, []string{"no Lo"}}.hold(t)
		change{withoutSet, func(r *api.Desc) { r.Hi = n }, []string{"no Hi"}}.hold(t)
	}
	change{withoutSet, func(r *api.Desc) { *r = withEnds(*r, 3, 5) }, []string{"no set", "no Lo", "no Hi"}}.hold(t)
}

// P14.3: alphabets.
func TestRightFrom(t *testing.T) {
	whole := ""
	for c := range 128 {
		whole += string(rune(c))
	}
	for _, s := range []string{"", "a", "ab", "az", " ~", "\x00", "\x00\x7f", "\x7f", "\x00\x01", whole, whole[1:], whole[:127]} {
		change{onlyStr, func(r *api.Desc) { r.From = s }, nil}.hold(t)
		if s != "" {
			change{except(api.Str), func(r *api.Desc) { r.From = s }, []string{"no alphabet"}}.hold(t)
		}
	}
	for _, s := range []string{"ba", "aa", "aba", "abb", "aab", "za", "acb", "~ ", "\x01\x00", "\x00\x00", "\x7f\x00", "\x80", "a\x80", "ab\xff", "\xff", "é", "aé", "日", whole + "\x7f", whole + "\x80", "\x00" + whole} {
		change{onlyStr, func(r *api.Desc) { r.From = s }, []string{"alphabet"}}.hold(t)
		change{except(api.Str), func(r *api.Desc) { r.From = s }, []string{"alphabet", "no alphabet"}}.hold(t)
	}
}

// names are as many different names.
func names(prefix string, count int) []string {
	var l []string
	for k := range count {
		l = append(l, fmt.Sprint(prefix, k))
	}
	return l
}

// P14.3: Names and More.
func TestRightNames(t *testing.T) {
	for _, x := range []struct {
		names, more []string
		breaks      []string
	}{
		{[]string{"a"}, nil, nil}, {[]string{"a"}, []string{"b"}, nil}, {[]string{"b", "a", "B"}, []string{"c", ""}, nil}, {[]string{"a"}, []string{"aa"}, nil},
		{[]string{""}, nil, nil}, {[]string{"\xff", "\xfe", "A B"}, nil, nil},
		{nil, nil, []string{"names of an Enum"}}, {[]string{}, []string{}, []string{"names of an Enum"}}, {nil, []string{"a"}, []string{"names of an Enum"}},
		{[]string{"a", "a"}, nil, []string{"different names"}}, {[]string{"a", "b", "a"}, nil, []string{"different names"}}, {[]string{"a", "b", "c"}, []string{"a"}, []string{"different names"}},
		{[]string{"a", "b", "c"}, []string{"d", "c"}, []string{"different names"}}, {[]string{"a"}, []string{"b", "c", "b"}, []string{"different names"}}, {[]string{"a"}, []string{"b", "b"}, []string{"different names"}},
		{[]string{"", "a", ""}, nil, []string{"different names"}},
		{names("a", api.MaxNames), nil, nil}, {names("a", api.MaxNames), names("b", api.MaxNames), nil},
		{names("a", api.MaxNames+1), nil, []string{"few"}}, {names("a", 1), names("b", api.MaxNames+1), []string{"few"}}, {names("a", 1000), names("b", 1000), []string{"few"}},
	} {
		change{onlyEnum, func(r *api.Desc) { r.Ext, r.Names, r.More = true, x.names, x.more }, x.breaks}.hold(t)
		if len(x.more) == 0 {
			change{onlyEnum, func(r *api.Desc) { r.Ext, r.Names, r.More = false, x.names, x.more }, x.breaks}.hold(t)
		}
	}
	change{onlyEnum, func(r *api.Desc) { r.Ext, r.More = false, []string{"q"} }, []string{"no More and Adds without Ext"}}.hold(t)
	change{except(api.Enum), func(r *api.Desc) { r.Names = []string{"a"} }, []string{"no names"}}.hold(t)
	change{except(api.Enum), func(r *api.Desc) { r.Names = []string{""} }, []string{"no names"}}.hold(t)
	// Of More, alone at those Kinds that have an Ext.
	withExt := slices.DeleteFunc(except(api.Enum), func(kind int) bool { return kind == api.Bool || kind == api.Null })
	change{withExt, func(r *api.Desc) { r.Ext, r.More = true, []string{"a"} }, []string{"no names"}}.hold(t)
	change{except(api.Enum), func(r *api.Desc) { r.Ext, r.More, r.Adds = false, []string{"a"}, nil }, []string{"no names", "no More and Adds without Ext"}}.hold(t)
	change{except(api.Enum), func(r *api.Desc) { r.Names, r.More = []string{}, []string{} }, nil}.hold(t)
}

// P14.3: Ext.
func TestRightExt(t *testing.T) {
	change{[]int{api.Bool, api.Null}, func(r *api.Desc) { r.Ext = true }, []string{"no Ext"}}.hold(t)
	change{[]int{2, 3, 5, 6, 7, 8, 9, 10}, func(r *api.Desc) { r.Ext = true }, nil}.hold(t)
	change{everyKind, func(r *api.Desc) { r.Ext, r.More, r.Adds = false, nil, nil }, nil}.hold(t)
	change{[]int{2, 3, 5, 6, 7, 8, 9, 10}, func(r *api.Desc) { r.Ext, r.More, r.Adds = true, nil, nil }, nil}.hold(t)
	change{withParts, func(r *api.Desc) { r.Ext, r.Adds = false, fields(0, 0, 0, 0, 0, 0, 1)[6:] }, []string{"no More and Adds without Ext"}}.hold(t)
}

// P14.3: Parts and Adds, and of which Kinds.
func TestRightParts(t *testing.T) {
	change{withoutParts, func(r *api.Desc) { r.Parts = fields(0) }, []string{"no parts"}}.hold(t)
	change{[]int{2, 3, 5, 6, 7, 9}, func(r *api.Desc) { r.Ext, r.Adds = true, fields(0) }, []string{"no parts"}}.hold(t)
	change{withoutParts, func(r *api.Desc) { r.Parts, r.Adds = []api.Field{}, []api.Field{} }, nil}.hold(t)
	change{onlySeq, func(r *api.Desc) { r.Parts = nil }, nil}.hold(t)
	change{onlySeq, func(r *api.Desc) { r.Parts, r.Adds = []api.Field{}, nil }, nil}.hold(t)
	change{onlyChoice, func(r *api.Desc) { r.Parts, r.Order = nil, nil }, []string{"parts of a Choice"}}.hold(t)
	change{onlyChoice, func(r *api.Desc) { r.Parts, r.Order, r.Adds = nil, nil, nil }, []string{"parts of a Choice"}}.hold(t)
	change{onlyChoice, func(r *api.Desc) { r.Parts, r.Order, r.Ext, r.Adds = nil, nil, true, fields(0, 1) }, []string{"parts of a Choice"}}.hold(t)
	for _, where := range []func(r *api.Desc) *api.Field{
		func(r *api.Desc) *api.Field { return &r.Parts[0] },
		func(r *api.Desc) *api.Field { return &r.Parts[1] },
		func(r *api.Desc) *api.Field {
			r.Ext, r.Adds = true, []api.Field{{Name: "x"}, {Name: "y"}}
			return &r.Adds[0]
		},
		func(r *api.Desc) *api.Field {
			r.Ext, r.Adds = true, []api.Field{{Name: "x"}, {Name: "y"}}
			return &r.Adds[1]
		},
	} {
		holdPart := func(kinds []int, of func(p *api.Field), breaks ...string) {
			t.Helper()
			change{kinds, func(r *api.Desc) { of(where(r)) }, breaks}.hold(t)
		}
		// The row of a part.
		for _, row := range []int{0, 1, 9, 17} {
			holdPart(withParts, func(p *api.Field) { p.T = row })
		}
		for _, row := range []int{-1, 18, 19, 4096, 1 << 32, math.MinInt, math.MaxInt} {
			holdPart(withParts, func(p *api.Field) { p.T = row }, "T")
		}
		// Opt and Def.
		value := api.Value{Kind: 77, S: "any", L: []api.Value{{}}}
		for _, opt := range []bool{false, true} {
			for count := range 4 {
				var seq, choice []string
				if opt || count > 0 {
					choice = append(choice, "no Opt or Def in a Choice")
				}
				if opt && count > 0 {
					seq = append(seq, "Opt and Def")
				}
				if count > 1 {
					seq = append(seq, "one Def")
				}
				of := func(p *api.Field) { p.Opt, p.Def = opt, slices.Repeat([]api.Value{value}, count) }
				holdPart(onlySeq, of, seq...)
				holdPart(onlyChoice, of, append(choice, seq...)...)
			}
		}
	}
}

// P14.3: the names of Parts and Adds, and how many there are.
func TestRightPartNames(t *testing.T) {
	called := func(names ...string) []api.Field {
		var l []api.Field
		for _, s := range names {
			l = append(l, api.Field{Name: s})
		}
		return l
	}
	for _, x := range []struct {
		parts, adds []api.Field
		breaks      []string
	}{
		{called("a"), nil, nil}, {called("b", "a"), called("c", "B"), nil}, {called("", "\xff"), called("A B"), nil}, {called("a"), called("aa"), nil},
		{called("a", "a"), nil, []string{"different parts"}}, {called("a", "b", "a"), nil, []string{"different parts"}}, {called("a", "b"), called("a"), []string{"different parts"}},
		{called("a", "b"), called("c", "b"), []string{"different parts"}}, {called("a"), called("b", "b"), []string{"different parts"}}, {called("a"), called("b", "c", "b"), []string{"different parts"}}, {called("", "a", ""), nil, []string{"different parts"}},
		{called(names("a", api.MaxNames)...), nil, nil}, {called(names("a", api.MaxNames)...), called(names("b", api.MaxNames)...), nil},
		{called(names("a", api.MaxNames+1)...), nil, []string{"few"}}, {called("a"), called(names("b", api.MaxNames+1)...), []string{"few"}},
	} {
		change{withParts, func(r *api.Desc) {
			r.Ext, r.Parts, r.Adds = true, x.parts, x.adds
			if r.Kind == api.Choice {
				r.Order = upwards(len(x.parts))
			}
		}, x.breaks}.hold(t)
	}
	// Names of different rows may be the same.
	holdRight(t, []api.Desc{{Kind: api.Seq, Parts: called("a")}, {Kind: api.Seq, Parts: called("a")}, {Kind: api.Enum, Names: []string{"a"}}, {Kind: api.Enum, Names: []string{"a"}}})
}

// upwards are the numbers from 0 on.
func upwards(count int) []int {
	var l []int
	for k := range count {
		l = append(l, k)
	}
	return l
}

// P14.3: Order.
func TestRightOrder(t *testing.T) {
	for _, x := range []struct {
		parts int
		order []int
		right bool
	}{
		{1, []int{0}, true}, {2, []int{0, 1}, true}, {2, []int{1, 0}, true}, {3, []int{2, 0, 1}, true}, {3, []int{1, 2, 0}, true}, {256, upwards(256), true},
		{1, nil, false}, {1, []int{1}, false}, {1, []int{-1}, false}, {1, []int{0, 0}, false}, {1, []int{0, 1}, false}, {1, []int{math.MinInt}, false},
		{2, []int{0}, false}, {2, []int{1}, false}, {2, []int{0, 0}, false}, {2, []int{1, 1}, false}, {2, []int{1, 2}, false}, {2, []int{-1, 0}, false}, {2, []int{0, 2}, false}, {2, []int{0, 1, 2}, false}, {2, []int{0, 1, 0}, false}, {2, []int{-1, 0, 1}, false}, {2, []int{0, 1, math.MaxInt}, false}, {2, nil, false},
		{3, []int{0, 1, 1}, false}, {3, []int{0, 2, 2}, false}, {3, []int{0, 0, 2}, false}, {3, []int{0, 1, 3}, false}, {3, []int{3, 2, 1}, false}, {3, []int{0, 1}, false},
		{256, upwards(255), false}, {256, upwards(257), false}, {255, upwards(256), false}, {256, append(upwards(255), 254), false},
	} {
		var breaks []string
		if !x.right {
			breaks = []string{"order"}
		}
		change{onlyChoice, func(r *api.Desc) {
			r.Ext, r.Adds, r.Parts, r.Order = false, nil, fields(make([]int, x.parts)...), x.order
		}, breaks}.hold(t)
		// The Adds have no place in it.
		adds := fields(make([]int, x.parts+1)...)[x.parts:]
		change{onlyChoice, func(r *api.Desc) {
			r.Ext, r.Adds, r.Parts, r.Order = true, adds, fields(make([]int, x.parts)...), x.order
		}, breaks}.hold(t)
	}
	for _, order := range [][]int{{0}, {0, 1}, {1, 0}, {-1}} {
		change{except(api.Choice), func(r *api.Desc) { r.Order = order }, []string{"no order"}}.hold(t)
	}
	change{except(api.Choice), func(r *api.Desc) { r.Order = []int{} }, nil}.hold(t)
}

// P14.3: Elem.
func TestRightElem(t *testing.T) {
	for _, row := range []int{0, 1, 9, 10, 11, 17} {
		change{onlySeqOf, func(r *api.Desc) { r.Elem = row }, nil}.hold(t)
		if row > 0 {
			change{except(api.SeqOf), func(r *api.Desc) { r.Elem = row }, []string{"no Elem"}}.hold(t)
		}
	}
	for _, row := range []int{-1, 18, 19, 4096, 1 << 32, math.MinInt, math.MaxInt} {
		change{onlySeqOf, func(r *api.Desc) { r.Elem = row }, []string{"Elem"}}.hold(t)
		change{except(api.SeqOf), func(r *api.Desc) { r.Elem = row }, []string{"no Elem"}}.hold(t)
	}
}
