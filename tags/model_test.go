package tags_test

import (
	"math"
	"slices"

	"spandrel/api"
)

// This file says what the chapter says by going from type to type anew for each
// question, and by holding each two parts against each other.

// ofKind are the universal tags.
var ofKind = map[int]int{1: 1, 2: 2, 5: 3, 6: 4, 4: 5, 3: 10, 8: 16, 9: 16, 7: 22}

// allParts are the Parts of a type, and then its Adds.
func allParts(t api.Type) []api.Part { return slices.Concat(t.Parts, t.Adds) }

// modelOf is what Of says.
func modelOf(l []api.Entry, auto bool, t api.Type) []int {
	var all []int
	seen := map[int]bool{}
	var visit func(auto bool, t api.Type)
	visit = func(auto bool, t api.Type) {
		switch t.Kind {
		case 10:
			for k, p := range allParts(t) {
				if auto {
					all = append(all, 1000+k)
				} else {
					visit(auto, p.T)
				}
			}
		case 11:
			place := slices.IndexFunc(l, func(e api.Entry) bool { return e.Module+"."+e.Name == t.Name })
			if place >= 0 && !seen[place] {
				seen[place] = true
				visit(l[place].Auto, l[place].T)
			}
		default:
			if tag, has := ofKind[t.Kind]; has {
				all = append(all, tag)
			}
		}
	}
	visit(auto, t)
	slices.Sort(all)
	return slices.Compact(all)
}

// modelOfPart is the tags of the part of a type that has this index.
func modelOfPart(l []api.Entry, auto bool, t api.Type, k int) []int {
	if auto {
		return []int{1000 + k}
	}
	return modelOf(l, auto, allParts(t)[k].T)
}

// mustDiffer tells whether two parts of a type, of which i is the first one, must
// be distinguishable.
func mustDiffer(t api.Type, i, j int) bool {
	if t.Kind == 10 {
		return true
	}
	for k := i; k < j; k++ {
		p := allParts(t)[k]
		if !p.Opt && len(p.Def) == 0 && k < len(t.Parts) {
			return false
		}
	}
	return t.Kind == 8
}

// isWrong tells whether two parts that must be distinguishable have a tag in
// common, in a type or anywhere in it.
func isWrong(l []api.Entry, auto bool, t api.Type) bool {
	var tags [][]int
	for k := range allParts(t) {
		tags = append(tags, modelOfPart(l, auto, t, k))
	}
	for j := range tags {
		for i := range j {
			if mustDiffer(t, i, j) && slices.ContainsFunc(tags[i], func(tag int) bool { return slices.Contains(tags[j], tag) }) {
				return true
			}
		}
	}
	for _, p := range allParts(t) {
		if isWrong(l, auto, p.T) {
			return true
		}
	}
	return slices.ContainsFunc(t.Elem, func(x api.Type) bool { return isWrong(l, auto, x) })
}

// modelCheck is what Check says.
func modelCheck(l []api.Entry) api.Errno {
	for _, e := range l {
		if isWrong(l, e.Auto, e.T) {
			return 8
		}
	}
	return 0
}

// modelOrder is what Order says: one part after the other is put ahead of all
// whose least tag is greater.
func modelOrder(l []api.Entry, auto bool, t api.Type) []int {
	least := func(k int) int {
		if tags := modelOfPart(l, auto, t, k); len(tags) > 0 {
			return tags[0]
		}
		return math.MinInt
	}
	var order []int
	for k := range t.Parts {
		at := slices.IndexFunc(order, func(o int) bool { return least(o) > least(k) })
		if at < 0 {
			at = len(order)
		}
		order = slices.Insert(order, at, k)
	}
	return order
}
