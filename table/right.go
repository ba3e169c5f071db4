package table

import (
	"slices"

	"spandrel/api"
	"spandrel/bounds"
)

// isRight tells whether a row is valid in a table of so many rows.
func isRight(r api.Desc, rows int) bool {
	return isKind(r.Kind) && isExtRight(r) && isSetRight(r) && isFromRight(r) && areNamesRight(r) &&
		arePartsRight(r, rows) && isOrderRight(r) && isElemRight(r, rows)
}

// isKind tells whether a number is the Kind of a row.
func isKind(kind int) bool {
	return api.Bool <= kind && kind <= api.Choice
}

// isExtRight tells whether a row may have its Ext, and what needs one.
func isExtRight(r api.Desc) bool {
	if r.Ext {
		return r.Kind != api.Bool && r.Kind != api.Null
	}
	return len(r.More) == 0 && len(r.Adds) == 0
}

// isSetRight tells whether a row may have its Set, which has its Lo and Hi.
func isSetRight(r api.Desc) bool {
	_, hasSet := bounds.Of(api.Type{Kind: r.Kind})
	lo, hi, isFilled := bounds.Ends(r.Set)
	// Of a Kind without a set, the ends are 0 and 0, and only a list without
	// ranges is normalized.
	return isFilled == hasSet && r.Lo == lo && r.Hi == hi && isNormalized(r.Set) && (r.Kind == api.Int || lo >= 0)
}

// isNormalized tells whether a set is as package bounds returns it, which returns
// normalized sets, and no two of them with the same integers.
func isNormalized(s []api.Range) bool {
	return slices.Equal(s, bounds.Set(api.Con{Op: api.All}, s))
}

// isFromRight tells whether a row may have its alphabet.
func isFromRight(r api.Desc) bool {
	if r.Kind != api.Str {
		return r.From == ""
	}
	for k := range len(r.From) {
		if r.From[k] >= 128 || k > 0 && r.From[k-1] >= r.From[k] {
			return false
		}
	}
	return true
}

// areNamesRight tells whether a row may have its Names and More.
func areNamesRight(r api.Desc) bool {
	if r.Kind != api.Enum {
		return len(r.Names) == 0 && len(r.More) == 0
	}
	return len(r.Names) > 0 && areFew(r.Names) && areFew(r.More) && areDistinct(slices.Concat(r.Names, r.More))
}

// arePartsRight tells whether a row may have its Parts and Adds in a table of so
// many rows.
func arePartsRight(r api.Desc, rows int) bool {
	if r.Kind != api.Seq && r.Kind != api.Choice {
		return len(r.Parts) == 0 && len(r.Adds) == 0
	}
	if !areFew(r.Parts) || !areFew(r.Adds) {
		return false
	}
	var names []string
	for _, p := range slices.Concat(r.Parts, r.Adds) {
		if !isPartRight(p, r.Kind, rows) {
			return false
		}
		names = append(names, p.Name)
	}
	return areDistinct(names)
}

// isPartRight tells whether a row of a Kind may have a part in a table of so many
// rows.
func isPartRight(p api.Field, kind, rows int) bool {
	if kind == api.Choice && (p.Opt || len(p.Def) > 0) {
		return false
	}
	return isRow(p.T, rows) && (len(p.Def) == 0 || len(p.Def) == 1 && !p.Opt)
}

// isOrderRight tells whether a row may have its Order, and a Choice the parts for
// one.
func isOrderRight(r api.Desc) bool {
	if r.Kind != api.Choice {
		return len(r.Order) == 0
	}
	if len(r.Parts) == 0 || len(r.Order) != len(r.Parts) {
		return false
	}
	for k, index := range slices.Sorted(slices.Values(r.Order)) {
		if index != k {
			return false
		}
	}
	return true
}

// isElemRight tells whether a row may have its Elem in a table of so many rows.
func isElemRight(r api.Desc, rows int) bool {
	if r.Kind != api.SeqOf {
		return r.Elem == 0
	}
	return isRow(r.Elem, rows)
}

// isRow tells whether a number is the place of a row in a table of so many.
func isRow(n, rows int) bool {
	return 0 <= n && n < rows
}

// areFew tells whether a list has no more elements than it may have.
func areFew[E any](l []E) bool {
	return len(l) <= api.MaxNames
}

// areDistinct tells whether all names in a list, whose order changes, are
// different.
func areDistinct(l []string) bool {
	slices.Sort(l)
	return len(slices.Compact(l)) == len(l)
}
