package spans

import (
	"cmp"
	"math"
	"slices"

	"spandrel/api"
)

// isEmpty tells whether no integer is in a range.
func isEmpty(r api.Range) bool {
	return r.Lo > r.Hi
}

// isApart tells whether a range ends before the next one begins, with at least
// one integer between them.
func isApart(r, next api.Range) bool {
	// Only behind the first comparison is an end not the greatest integer, to
	// which no 1 can be added.
	return r.Hi < next.Lo && r.Hi+1 < next.Lo
}

// normalized returns the normalized set of the integers in at least one of some
// sets.
func normalized(sets ...[]api.Range) []api.Range {
	l := nonempty(sets)
	slices.SortFunc(l, func(r, s api.Range) int {
		return cmp.Compare(r.Lo, s.Lo)
	})
	return joined(l)
}

// nonempty returns those ranges of some sets that are not empty, in a list of
// its own.
func nonempty(sets [][]api.Range) []api.Range {
	var l []api.Range
	for _, s := range sets {
		for _, r := range s {
			if !isEmpty(r) {
				l = append(l, r)
			}
		}
	}
	return l
}

// joined joins those ranges of a list that are not apart, in the list's own
// room. None of them is empty, and none begins before the one ahead of it.
func joined(l []api.Range) []api.Range {
	kept := l[:0]
	for _, r := range l {
		last := len(kept) - 1
		if last < 0 || isApart(kept[last], r) {
			kept = append(kept, r)
		} else {
			kept[last].Hi = max(kept[last].Hi, r.Hi)
		}
	}
	return kept
}

// common returns the integers that two normalized sets have in common. Between
// two ranges of the result one of the sets has a gap, so it is normalized, too.
func common(a, b []api.Range) []api.Range {
	var l []api.Range
	for len(a) > 0 && len(b) > 0 {
		r := api.Range{Lo: max(a[0].Lo, b[0].Lo), Hi: min(a[0].Hi, b[0].Hi)}
		if !isEmpty(r) {
			l = append(l, r)
		}
		// What ends first has nothing in common with what follows in the other set.
		if a[0].Hi < b[0].Hi {
			a = a[1:]
		} else {
			b = b[1:]
		}
	}
	return l
}

// others returns the normalized set of the integers that are not in one.
func others(s []api.Range) []api.Range {
	var l []api.Range
	from := math.MinInt
	for _, r := range s {
		if from < r.Lo {
			l = append(l, api.Range{Lo: from, Hi: r.Lo - 1})
		}
		if r.Hi == math.MaxInt {
			return l
		}
		from = r.Hi + 1
	}
	return append(l, api.Range{Lo: from, Hi: math.MaxInt})
}
