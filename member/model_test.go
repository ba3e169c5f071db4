package member_test

import (
	"regexp"
	"slices"
	"strings"

	"spandrel/api"
	"spandrel/table"
)

// This file says what the chapter says: by a rule for each condition on a value,
// and by names of parts in maps.

// rule is a condition on the values of a row.
type rule struct {
	name string
	is   func(r api.Desc, v api.Value) bool
}

// allParts are the Parts of a row, and then its Adds.
func allParts(r api.Desc) []api.Field { return slices.Concat(r.Parts, r.Adds) }

// places are the places of the names of parts.
func places(r api.Desc) map[string]int {
	m := map[string]int{}
	for k, p := range allParts(r) {
		m[p.Name] = k
	}
	return m
}

// zerosAndOnes are the texts of bits.
var zerosAndOnes = regexp.MustCompile(`^[01]*$`)

// isInSet tells whether a number is in one of the ranges of a row.
func isInSet(r api.Desc, n int) bool {
	for _, x := range r.Set {
		if n >= x.Lo && n <= x.Hi {
			return true
		}
	}
	return false
}

// rules are all conditions on a value of the Kind of its row, without those on its
// elements.
func rules() []rule {
	of := func(kind int, is func(r api.Desc, v api.Value) bool) func(api.Desc, api.Value) bool {
		return func(r api.Desc, v api.Value) bool { return r.Kind != kind || is(r, v) }
	}
	none := func(count func(v api.Value) int, kinds ...int) func(api.Desc, api.Value) bool {
		return func(r api.Desc, v api.Value) bool { return slices.Contains(kinds, r.Kind) || count(v) == 0 }
	}
	return []rule{
		{"no N", none(func(v api.Value) int { return v.N }, api.Bool, api.Int)},
		{"no S", none(func(v api.Value) int { return len(v.S) }, api.Enum, api.Bits, api.Octets, api.Str, api.Choice)},
		{"no Names", none(func(v api.Value) int { return len(v.Names) }, api.Seq)},
		{"no L", none(func(v api.Value) int { return len(v.L) }, api.Seq, api.SeqOf, api.Choice)},
		{"0 or 1", of(api.Bool, func(r api.Desc, v api.Value) bool { return v.N/2 == 0 && v.N >= 0 })},
		{"number", of(api.Int, func(r api.Desc, v api.Value) bool { return r.Ext || isInSet(r, v.N) })},
		{"item", of(api.Enum, func(r api.Desc, v api.Value) bool { return slices.Contains(slices.Concat(r.Names, r.More), v.S) })},
		{"binary", of(api.Bits, func(r api.Desc, v api.Value) bool { return zerosAndOnes.MatchString(v.S) })},
		{"alphabet", of(api.Str, func(r api.Desc, v api.Value) bool {
			for _, c := range []rune(v.S) {
				if c > 127 || r.From != "" && !strings.ContainsRune(r.From, c) {
					return false
				}
			}
			return true
		})},
		{"size", func(r api.Desc, v api.Value) bool {
			return !slices.Contains([]int{api.Bits, api.Octets, api.Str, api.SeqOf}, r.Kind) || r.Ext || isInSet(r, len(v.S)+len(v.L))
		}},
		{"most", func(r api.Desc, v api.Value) bool {
			return !slices.Contains([]int{api.Bits, api.Octets, api.Str, api.SeqOf}, r.Kind) || max(len(v.S), len(v.L)) <= 1048576
		}},
		{"one element", of(api.Choice, func(r api.Desc, v api.Value) bool { return len(v.L) == 1 })},
		{"known", of(api.Choice, func(r api.Desc, v api.Value) bool {
			_, is := places(r)[v.S]
			return is
		})},
		{"known", of(api.Seq, func(r api.Desc, v api.Value) bool {
			all := places(r)
			return !slices.ContainsFunc(v.Names, func(s string) bool { _, is := all[s]; return !is })
		})},
		{"as many", of(api.Seq, func(r api.Desc, v api.Value) bool { return len(v.L) == len(v.Names) })},
		{"once", of(api.Seq, func(r api.Desc, v api.Value) bool {
			all := slices.Clone(v.Names)
			slices.Sort(all)
			return len(slices.Compact(all)) == len(v.Names)
		})},
		{"in order", of(api.Seq, func(r api.Desc, v api.Value) bool {
			all, last := places(r), 0
			for _, s := range v.Names {
				if k, is := all[s]; is {
					if k < last {
						return false
					}
					last = k
				}
			}
			return true
		})},
		{"required", of(api.Seq, func(r api.Desc, v api.Value) bool {
			for _, p := range r.Parts {
				if !p.Opt && len(p.Def) == 0 && !slices.Contains(v.Names, p.Name) {
					return false
				}
			}
			return true
		})},
	}
}

// broken are the names of those conditions that a value breaks at any depth, each
// one once, in alphabetical order. If a Kind is not that of its row, there is no
// more to say.
func broken(d []api.Desc, at int, v api.Value) []string {
	r := d[at]
	if v.Kind != r.Kind {
		return []string{"kind"}
	}
	var l []string
	for _, x := range rules() {
		if !x.is(r, v) {
			l = append(l, x.name)
		}
	}
	for k, x := range v.L {
		if place, is := rowOfElement(r, v, k); is {
			l = append(l, broken(d, place, x)...)
		}
	}
	slices.Sort(l)
	return slices.Compact(l)
}

// rowOfElement is the place of the row to which an element of a value is to belong,
// if there is one.
func rowOfElement(r api.Desc, v api.Value, k int) (int, bool) {
	name := v.S
	switch {
	case r.Kind == api.SeqOf:
		return r.Elem, true
	case r.Kind == api.Seq && k < len(v.Names):
		name = v.Names[k]
	case r.Kind != api.Choice:
		return 0, false
	}
	at, is := places(r)[name]
	if !is {
		return 0, false
	}
	return allParts(r)[at].T, true
}

// depth is the depth of a value.
func depth(v api.Value) int {
	if v.Kind < 8 || v.Kind > 10 {
		return 0
	}
	most := 0
	for _, x := range v.L {
		most = max(most, depth(x))
	}
	return most + 1
}

// modelRight is what Right says.
func modelRight(d []api.Desc) bool {
	if !table.Right(d) {
		return false
	}
	for _, r := range d {
		for _, p := range allParts(r) {
			for _, v := range p.Def {
				if !slices.Contains([]int{1, 2, 3, 7}, v.Kind) || len(broken(d, p.T, v)) > 0 {
					return false
				}
			}
		}
	}
	return true
}

// modelCheck is what Check says.
func modelCheck(d []api.Desc, v api.Value) api.Errno {
	switch {
	case !modelRight(d):
		return 1
	case depth(v) > 40:
		return 9
	case len(broken(d, 0, v)) > 0:
		return 4
	}
	return 0
}

// modelCanon is what Canon says of a value that belongs to a row.
func modelCanon(d []api.Desc, at int, v api.Value) api.Value {
	r := d[at]
	if r.Kind != api.Seq {
		c := v
		c.L = nil
		for k, x := range v.L {
			place, _ := rowOfElement(r, v, k)
			c.L = append(c.L, modelCanon(d, place, x))
		}
		return c
	}
	all := map[string]api.Value{}
	for _, p := range allParts(r) {
		for _, x := range p.Def {
			all[p.Name] = x
		}
	}
	for k, s := range v.Names {
		place, _ := rowOfElement(r, v, k)
		all[s] = modelCanon(d, place, v.L[k])
	}
	c := api.Value{Kind: api.Seq}
	for _, p := range allParts(r) {
		if x, is := all[p.Name]; is {
			c.Names, c.L = append(c.Names, p.Name), append(c.L, x)
		}
	}
	return c
}
