package shape

import (
	"math"

	"spandrel/api"
)

// conFields records which fields of a constraint are set, beside its Op.
type conFields struct {
	lo, hi, low, high, l bool
}

// setInCon records the fields that are set in a constraint.
func setInCon(c api.Con) conFields {
	return conFields{lo: c.Lo != 0, hi: c.Hi != 0, low: c.Low, high: c.High, l: len(c.L) > 0}
}

// isCon tells whether a constraint is well-formed and nested at most as deep as
// given.
func isCon(c api.Con, deepest int) bool {
	if deepest == 0 || !hasConFields(c) {
		return false
	}
	return every(c.L, func(e api.Con) bool {
		return e.Op != api.All && isCon(e, deepest-1)
	})
}

// hasConFields tells whether the fields of a constraint are as its Op asks for,
// whatever the elements are.
func hasConFields(c api.Con) bool {
	set := setInCon(c)
	switch c.Op {
	case api.All:
		return set == conFields{}
	case api.Span:
		return set == conFields{lo: set.lo && !c.Low, hi: set.hi && !c.High, low: c.Low, high: c.High} &&
			c.Lo != math.MinInt && c.Hi != math.MinInt
	case api.Union, api.Meet:
		return set == conFields{l: true} && len(c.L) >= 2
	case api.Except:
		return set == conFields{l: true} && len(c.L) == 2
	}
	return false
}
