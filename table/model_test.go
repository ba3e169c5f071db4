package table_test

import (
	"slices"

	"spandrel/api"
	"spandrel/bounds"
	"spandrel/scope"
	"spandrel/spans"
	"spandrel/tags"
)

// This file says what the chapter says: of Lower by a list of what is still to do,
// of which the last is taken next, of Right by a rule for each of its conditions.

// task is a type that is to get a row, whose place is then told.
type task struct {
	t    api.Type
	auto bool
	tell func(row int)
}

// modelLower is what Lower says.
func modelLower(l []api.Entry, name string) ([]api.Desc, api.Errno) {
	if scope.Find(l, name) == -1 {
		return nil, 7
	}
	if !scope.Finite(l) {
		return nil, 9
	}
	if tags.Check(l) != 0 {
		return nil, 8
	}
	for _, x := range l {
		if bounds.Check(x.T) != 0 {
			return nil, 10
		}
	}
	return modelRows(l, name)
}

// modelRows is what Lower says when it creates rows.
func modelRows(l []api.Entry, name string) ([]api.Desc, api.Errno) {
	var rows []*api.Desc
	rowOf := map[int]int{}
	tasks := []task{{ref(name), false, func(int) {}}}
	for len(tasks) > 0 {
		x := tasks[len(tasks)-1]
		tasks = tasks[:len(tasks)-1]
		place := -1
		for refs := 0; x.t.Kind == 11; refs++ {
			place = scope.Find(l, x.t.Name)
			if place == -1 {
				return nil, 7
			}
			if refs > len(l) {
				return nil, 9
			}
			x.t, x.auto = l[place].T, l[place].Auto
		}
		if row, isThere := rowOf[place]; isThere {
			x.tell(row)
			continue
		}
		if len(rows) == 4096 || x.t.Kind < 1 || x.t.Kind > 11 || x.t.Kind == 9 && len(x.t.Elem) != 1 {
			return nil, 1
		}
		if place != -1 {
			rowOf[place] = len(rows)
		}
		x.tell(len(rows))
		row, within := modelRow(l, x)
		rows = append(rows, row)
		slices.Reverse(within)
		tasks = append(tasks, within...)
	}
	var d []api.Desc
	for _, row := range rows {
		d = append(d, *row)
	}
	return d, 0
}

// modelRow is the row of a type, and the types in it, in order.
func modelRow(l []api.Entry, x task) (*api.Desc, []task) {
	r := &api.Desc{Kind: x.t.Kind, Ext: x.t.Ext, From: x.t.From, Names: x.t.Names, More: x.t.More}
	switch r.Kind {
	case 2:
		r.Set = bounds.Set(x.t.Con, spans.Whole())
	case 5, 6, 7, 9:
		r.Set = bounds.Set(x.t.Con, bounds.Size())
	case 10:
		r.Order = tags.Order(l, x.auto, x.t)
	}
	for k, s := range r.Set {
		if k == 0 {
			r.Lo = s.Lo
		}
		r.Hi = s.Hi
	}
	var within []task
	for _, p := range x.t.Parts {
		k := len(r.Parts)
		r.Parts = append(r.Parts, api.Field{Name: p.Name, Opt: p.Opt, Def: p.Def})
		within = append(within, task{p.T, x.auto, func(row int) { r.Parts[k].T = row }})
	}
	for _, p := range x.t.Adds {
		k := len(r.Adds)
		r.Adds = append(r.Adds, api.Field{Name: p.Name, Opt: p.Opt, Def: p.Def})
		within = append(within, task{p.T, x.auto, func(row int) { r.Adds[k].T = row }})
	}
	if r.Kind == 9 {
		within = append(within, task{x.t.Elem[0], x.auto, func(row int) { r.Elem = row }})
	}
	return r, within
}

// rule is a condition of Right on a row.
type rule struct {
	name string
	is   func(r api.Desc, rows int) bool
}

// The Kinds with a set, and those with parts.
var (
	withSet   = []int{api.Int, api.Bits, api.Octets, api.Str, api.SeqOf}
	withParts = []int{api.Seq, api.Choice}
)

// allParts are the Parts of a row, and then its Adds.
func allParts(r api.Desc) []api.Field { return slices.Concat(r.Parts, r.Adds) }

// allOf tells whether something is so of all parts of a row.
func allOf(r api.Desc, is func(api.Field) bool) bool {
	for _, p := range allParts(r) {
		if !is(p) {
			return false
		}
	}
	return true
}

// areAllDifferent tells whether no string is in a list twice.
func areAllDifferent(l []string) bool {
	seen := map[string]int{}
	for _, s := range l {
		seen[s]++
	}
	return len(seen) == len(l)
}

// rules are all conditions on a row, each of which is for itself.
func rules() []rule {
	ofSet := func(is func(r api.Desc) bool) func(api.Desc, int) bool {
		return func(r api.Desc, _ int) bool { return !slices.Contains(withSet, r.Kind) || is(r) }
	}
	of := func(kind int, is func(r api.Desc, rows int) bool) func(api.Desc, int) bool {
		return func(r api.Desc, rows int) bool { return r.Kind != kind || is(r, rows) }
	}
	none := func(kinds []int, count func(r api.Desc) int) func(api.Desc, int) bool {
		return func(r api.Desc, _ int) bool { return slices.Contains(kinds, r.Kind) || count(r) == 0 }
	}
	return []rule{
		{"kind", func(r api.Desc, _ int) bool { return r.Kind > 0 && r.Kind < 11 }},
		{"normalized", ofSet(func(r api.Desc) bool { return spans.Right(r.Set) })},
		{"not empty", ofSet(func(r api.Desc) bool { return len(r.Set) > 0 })},
		{"Lo", ofSet(func(r api.Desc) bool { return len(r.Set) == 0 || r.Lo == r.Set[0].Lo })},
		{"Hi", ofSet(func(r api.Desc) bool { return len(r.Set) == 0 || r.Hi == r.Set[len(r.Set)-1].Hi })},
		{"Lo of a size", ofSet(func(r api.Desc) bool { return r.Kind == api.Int || r.Lo >= 0 })},
		{"no set", none(withSet, func(r api.Desc) int { return len(r.Set) })},
		{"no Lo", none(withSet, func(r api.Desc) int { return r.Lo })},
		{"no Hi", none(withSet, func(r api.Desc) int { return r.Hi })},
		{"alphabet", func(r api.Desc, _ int) bool {
			last := rune(-1)
			for _, c := range r.From {
				if c <= last || c > 127 {
					return false
				}
				last = c
			}
			return true
		}},
		{"no alphabet", none([]int{api.Str}, func(r api.Desc) int { return len(r.From) })},
		{"names of an Enum", of(api.Enum, func(r api.Desc, _ int) bool { return len(r.Names) > 0 })},
		{"no names", none([]int{api.Enum}, func(r api.Desc) int { return len(r.Names) + len(r.More) })},
		{"parts of a Choice", of(api.Choice, func(r api.Desc, _ int) bool { return len(r.Parts) > 0 })},
		{"order", of(api.Choice, func(r api.Desc, _ int) bool {
			for k := range r.Parts {
				if !slices.Contains(r.Order, k) {
					return false
				}
			}
			return len(r.Order) == len(r.Parts)
		})},
		{"no Opt or Def in a Choice", of(api.Choice, func(r api.Desc, _ int) bool {
			return allOf(r, func(p api.Field) bool { return !p.Opt && len(p.Def) == 0 })
		})},
		{"no parts", none(withParts, func(r api.Desc) int { return len(allParts(r)) })},
		{"no order", none([]int{api.Choice}, func(r api.Desc) int { return len(r.Order) })},
		{"no More and Adds without Ext", func(r api.Desc, _ int) bool { return r.Ext || len(r.More)+len(r.Adds) == 0 }},
		{"no Ext", func(r api.Desc, _ int) bool { return !r.Ext || r.Kind != api.Bool && r.Kind != api.Null }},
		{"T", func(r api.Desc, rows int) bool {
			return allOf(r, func(p api.Field) bool { return p.T >= 0 && p.T < rows })
		}},
		{"Elem", of(api.SeqOf, func(r api.Desc, rows int) bool { return r.Elem >= 0 && r.Elem < rows })},
		{"no Elem", none([]int{api.SeqOf}, func(r api.Desc) int { return r.Elem })},
		{"Opt and Def", func(r api.Desc, _ int) bool {
			return allOf(r, func(p api.Field) bool { return !p.Opt || len(p.Def) == 0 })
		}},
		{"one Def", func(r api.Desc, _ int) bool {
			return allOf(r, func(p api.Field) bool { return len(p.Def) < 2 })
		}},
		{"different names", of(api.Enum, func(r api.Desc, _ int) bool { return areAllDifferent(slices.Concat(r.Names, r.More)) })},
		{"different parts", func(r api.Desc, _ int) bool {
			var names []string
			for _, p := range allParts(r) {
				names = append(names, p.Name)
			}
			return areAllDifferent(names)
		}},
		{"few", func(r api.Desc, _ int) bool {
			return max(len(r.Names), len(r.More), len(r.Parts), len(r.Adds)) <= 256
		}},
	}
}

// broken are the names of those conditions that are broken somewhere in a table,
// each one once.
func broken(d []api.Desc) []string {
	var names []string
	if len(d) < 1 || len(d) > 4096 {
		names = append(names, "rows")
	}
	for _, x := range rules() {
		if slices.ContainsFunc(d, func(r api.Desc) bool { return !x.is(r, len(d)) }) {
			names = append(names, x.name)
		}
	}
	return names
}
