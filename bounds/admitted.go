package bounds

import (
	"math"
	"slices"

	"spandrel/api"
	"spandrel/spans"
)

// admitted returns the set of the integers that a constraint admits, which need
// not be normalized. What is nested in it at more levels than given, of which
// the constraint itself is the first, admits nothing.
func admitted(c api.Con, levels int) []api.Range {
	if levels == 0 {
		return nil
	}
	switch c.Op {
	case api.All:
		return spans.Whole()
	case api.Span:
		return []api.Range{between(c)}
	case api.Union:
		return byOne(c.L, levels-1)
	case api.Meet:
		return byAll(c.L, levels-1)
	case api.Except:
		first := min(1, len(c.L))
		return spans.Minus(byAll(c.L[:first], levels-1), byOne(c.L[first:], levels-1))
	}
	return nil
}

// between returns the range of the integers between the bounds of a constraint.
func between(c api.Con) api.Range {
	r := api.Range{Lo: c.Lo, Hi: c.Hi}
	if c.Low {
		r.Lo = math.MinInt
	}
	if c.High {
		r.Hi = math.MaxInt
	}
	return r
}

// byOne returns the set of the integers that at least one constraint of a list
// admits.
func byOne(l []api.Con, levels int) []api.Range {
	return combined(l, levels, nil, func(a, b []api.Range) []api.Range {
		// A list of the ranges of both is a set of the integers in either. It is
		// sorted when it meets another set, and not at each step ahead of that.
		return append(a, b...)
	})
}

// byAll returns the set of the integers that all constraints of a list admit.
func byAll(l []api.Con, levels int) []api.Range {
	return combined(l, levels, spans.Whole(), spans.Meet)
}

// combined returns what an operation makes of the sets that the constraints of a
// list admit, or none if the list is empty. The operation may use the room of the
// sets that it is given.
func combined(l []api.Con, levels int, none []api.Range, operation func(a, b []api.Range) []api.Range) []api.Range {
	switch len(l) {
	case 0:
		return none
	case 1:
		return admitted(l[0], levels)
	}
	// By halves, so that no set is gone through again for each constraint that
	// follows in a long list.
	half := len(l) / 2
	return operation(combined(l[:half], levels, none, operation), combined(l[half:], levels, none, operation))
}

// hasEmpty tells whether a type, or one that is nested in it at the levels given,
// of which the type itself is the first, has a set that is empty.
func hasEmpty(t api.Type, levels int) bool {
	if levels == 0 {
		return false
	}
	if s, has := Of(t); has && len(s) == 0 {
		return true
	}
	isIn := func(p api.Part) bool { return hasEmpty(p.T, levels-1) }
	return slices.ContainsFunc(t.Parts, isIn) || slices.ContainsFunc(t.Adds, isIn) ||
		slices.ContainsFunc(t.Elem, func(e api.Type) bool { return hasEmpty(e, levels-1) })
}
