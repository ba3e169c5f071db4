package member

import (
	"slices"
	"sort"
	"strings"

	"spandrel/api"
	"spandrel/spans"
)

// has tells whether a value, which is not nested too deep, belongs to the row.
func (r row) has(v api.Value) bool {
	if v.Kind != r.Kind || !isBare(v) {
		return false
	}
	switch r.Kind {
	case api.Bool:
		return v.N == 0 || v.N == 1
	case api.Int:
		return r.admits(v.N)
	case api.Enum:
		return slices.Contains(r.Names, v.S) || slices.Contains(r.More, v.S)
	case api.Bits, api.Octets, api.Str:
		return r.isSize(len(v.S)) && r.hasCharacters(v.S)
	case api.SeqOf:
		return r.isSize(len(v.L)) && every(v.L, r.elem().has)
	case api.Choice:
		return r.hasAlternative(v)
	case api.Seq:
		return r.hasParts(v)
	}
	return true
}

// isBare tells whether no field of a value is set but those that values of its
// Kind have.
func isBare(v api.Value) bool {
	switch v.Kind {
	case api.Bool, api.Int:
		v.N = 0
	case api.Enum, api.Bits, api.Octets, api.Str:
		v.S = ""
	case api.SeqOf:
		v.L = nil
	case api.Choice:
		v.S, v.L = "", nil
	case api.Seq:
		v.Names, v.L = nil, nil
	}
	return Same(v, api.Value{Kind: v.Kind})
}

// every tells whether something is so of each element of a list.
func every(l []api.Value, is func(api.Value) bool) bool {
	for _, v := range l {
		if !is(v) {
			return false
		}
	}
	return true
}

// admits tells whether the row has a number, or a size.
func (r row) admits(n int) bool {
	return r.Ext || isIn(r.Set, n)
}

// isIn tells whether a number is in a normalized set.
func isIn(s []api.Range, n int) bool {
	// Only the first range that does not end ahead of the number may have it. To
	// ask all of them took too long for many numbers and a set of many ranges.
	k := sort.Search(len(s), func(k int) bool { return s[k].Hi >= n })
	return k < len(s) && spans.Has(s[k:k+1], n)
}

// isSize tells whether values of the row may have so many units.
func (r row) isSize(n int) bool {
	return n <= api.MaxLength && r.admits(n)
}

// hasCharacters tells whether values of the row may have all characters of a
// string.
func (r row) hasCharacters(s string) bool {
	for k := range len(s) {
		if !r.hasCharacter(s[k]) {
			return false
		}
	}
	return true
}

// hasCharacter tells whether values of the row may have a character.
func (r row) hasCharacter(c byte) bool {
	switch {
	case r.Kind == api.Bits:
		return c == '0' || c == '1'
	case r.Kind == api.Octets:
		return true
	case r.From == "":
		return c < 128
	}
	return strings.IndexByte(r.From, c) >= 0
}

// hasAlternative tells whether a value is one of the row's alternatives.
func (r row) hasAlternative(v api.Value) bool {
	p, isThere := r.named(v.S)
	return isThere && len(v.L) == 1 && r.of(p).has(v.L[0])
}

// hasParts tells whether a value has parts as the row requires them.
func (r row) hasParts(v api.Value) bool {
	if len(v.L) != len(v.Names) {
		return false
	}
	next := 0
	for k := range r.count() {
		p := r.part(k)
		switch {
		case next < len(v.Names) && v.Names[next] == p.Name:
			if !r.of(p).has(v.L[next]) {
				return false
			}
			next++
		case k < len(r.Parts) && !p.Opt && len(p.Def) == 0:
			return false
		}
	}
	// No part takes a name that is unknown, or not at its place.
	return next == len(v.Names)
}

// isDeeper tells whether the depth of a value is greater than most.
func isDeeper(v api.Value, most int) bool {
	if v.Kind != api.Seq && v.Kind != api.SeqOf && v.Kind != api.Choice {
		return false
	}
	return most == 0 || slices.ContainsFunc(v.L, func(x api.Value) bool { return isDeeper(x, most-1) })
}
