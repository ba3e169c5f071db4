package bounds_test

import (
	"math"
	"slices"

	"spandrel/api"
)

// This file says what the chapter says by asking for single integers whether a
// constraint admits them, so that no set is combined with another one in it.

const (
	least = math.MinInt
	most  = math.MaxInt
)

// deepest is how deep constraints and types count.
const deepest = 40

// set is the ranges between these integers, two of which are the ends of each.
func set(ends ...int) []api.Range {
	var l []api.Range
	for pair := range slices.Chunk(ends, 2) {
		l = append(l, api.Range{Lo: pair[0], Hi: pair[1]})
	}
	return l
}

// isCombination tells whether the elements of a constraint matter.
func isCombination(c api.Con) bool {
	return c.Op == api.Union || c.Op == api.Meet || c.Op == api.Except
}

// modelAdmits tells whether a constraint that is so deep admits an integer.
func modelAdmits(c api.Con, depth, n int) bool {
	if depth > deepest {
		return false
	}
	var by []bool
	if isCombination(c) {
		for _, e := range c.L {
			by = append(by, modelAdmits(e, depth+1, n))
		}
	}
	switch c.Op {
	case api.All:
		return true
	case api.Span:
		return (c.Low || c.Lo <= n) && (c.High || n <= c.Hi)
	case api.Union:
		return slices.Contains(by, true)
	case api.Meet:
		return !slices.Contains(by, false)
	case api.Except:
		return len(by) == 0 || by[0] && !slices.Contains(by[1:], true)
	}
	return false
}

// modelIn tells whether an integer is in at least one range.
func modelIn(s []api.Range, n int) bool {
	return slices.ContainsFunc(s, func(r api.Range) bool { return r.Lo <= n && n <= r.Hi })
}

// turns are the integers at which a range begins, and at which what follows it
// does.
func turns(lo, hi int) []int {
	if hi == most {
		return []int{lo}
	}
	return []int{lo, hi + 1}
}

// points are all integers of which a constraint, or a set, may say something else
// than of the integer ahead of them, in order, and the least integer of all.
func points(c api.Con, s []api.Range) []int {
	l := []int{least}
	for _, r := range s {
		l = append(l, turns(r.Lo, r.Hi)...)
	}
	var add func(c api.Con, depth int)
	add = func(c api.Con, depth int) {
		l = append(l, turns(c.Lo, c.Hi)...)
		if depth == deepest || !isCombination(c) {
			return
		}
		for _, e := range c.L {
			add(e, depth+1)
		}
	}
	add(c, 1)
	slices.Sort(l)
	return slices.Compact(l)
}

// modelSet is what Set says.
func modelSet(c api.Con, parent []api.Range) []api.Range {
	var l []api.Range
	follows := false
	from := points(c, parent)
	for k, n := range from {
		to := most
		if k+1 < len(from) {
			to = from[k+1] - 1
		}
		is := modelIn(parent, n) && modelAdmits(c, 1, n)
		switch {
		case is && follows:
			l[len(l)-1].Hi = to
		case is:
			l = append(l, api.Range{Lo: n, Hi: to})
		}
		follows = is
	}
	return l
}

// modelOf is what Of says.
func modelOf(t api.Type) ([]api.Range, bool) {
	parents := map[int][]api.Range{
		2: set(least, most), 5: set(0, most), 6: set(0, most), 7: set(0, most), 9: set(0, most),
	}
	parent, is := parents[t.Kind]
	return modelSet(t.Con, parent), is
}

// modelCheck is what Check says, by a list of all types of each depth.
func modelCheck(t api.Type) api.Errno {
	level := []api.Type{t}
	for range deepest {
		var next []api.Type
		for _, x := range level {
			if s, is := modelOf(x); is && len(s) == 0 {
				return api.ErrEmpty
			}
			for _, p := range slices.Concat(x.Parts, x.Adds) {
				next = append(next, p.T)
			}
			next = append(next, x.Elem...)
		}
		level = next
	}
	return api.OK
}
