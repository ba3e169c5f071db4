package dec

import (
	"math"
	"sort"

	"spandrel/api"
	"spandrel/spans"
)

// sizes returns the bounds that hold for a size behind its extension bit. The upper
// one is below 0 if there is none.
func sizes(x *api.Desc, isBeyond bool) (lo, hi int) {
	switch {
	case isBeyond:
		return 0, -1
	case x.Hi == math.MaxInt:
		return x.Lo, -1
	}
	return x.Lo, x.Hi
}

// admit ends decoding unless a number or size is in the Set of a row or beyond it,
// as its extension bit tells.
func admit(x *api.Desc, n int, isBeyond bool) {
	is := isIn(x.Set, n)
	refuse(isBeyond && is, api.ErrForm)
	refuse(!isBeyond && !is, api.ErrConstraint)
}

// isIn tells whether a number is in a normalized set.
func isIn(s []api.Range, n int) bool {
	// Only the first range that does not end ahead of the number may have it. To
	// ask all of them takes too long for many numbers and a set of many ranges.
	k := sort.Search(len(s), func(k int) bool { return s[k].Hi >= n })
	return k < len(s) && spans.Has(s[k:k+1], n)
}
