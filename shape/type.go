package shape

import (
	"math"

	"spandrel/api"
	"spandrel/token"
)

// The characters of strings are between these two.
const (
	firstCharacter = ' '
	lastCharacter  = '~'
)

// typeFields records which fields of a type are set, beside its Kind.
type typeFields struct {
	name, con, ext, from, names, more, parts, adds, elem bool
}

// setInType records the fields that are set in a type.
func setInType(t api.Type) typeFields {
	return typeFields{
		name:  t.Name != "",
		con:   t.Con.Op != api.All || setInCon(t.Con) != conFields{},
		ext:   t.Ext,
		from:  t.From != "",
		names: len(t.Names) > 0,
		more:  len(t.More) > 0,
		parts: len(t.Parts) > 0,
		adds:  len(t.Adds) > 0,
		elem:  len(t.Elem) > 0,
	}
}

// isType tells whether a type is well-formed, however deep it is.
func isType(t api.Type) bool {
	isPart := isComponent
	if t.Kind == api.Choice {
		isPart = isAlternative
	}
	// A field that the Kind does not have is empty here, and so as it must be.
	return hasTypeFields(t) &&
		(t.Kind != api.Ref || isReference(t.Name)) &&
		Con(t.Con) &&
		isAlphabet(t.From) &&
		few(t.Names, token.Lower) && few(t.More, token.Lower) &&
		few(t.Parts, isPart) && few(t.Adds, isPart) &&
		len(t.Elem) <= 1 && every(t.Elem, isType)
}

// hasTypeFields tells whether the fields that are set in a type are those that
// its Kind asks for, whatever they hold.
func hasTypeFields(t api.Type) bool {
	set := setInType(t)
	// Ext is of a constraint here, so that it needs one.
	conExt := set.con && set.ext
	switch t.Kind {
	case api.Bool, api.Null:
		return set == typeFields{}
	case api.Int, api.Bits, api.Octets:
		return set == typeFields{con: set.con, ext: conExt}
	case api.Str:
		return set == typeFields{con: set.con, ext: conExt, from: set.from}
	case api.Enum:
		return set == typeFields{names: true, ext: set.ext, more: set.ext && set.more}
	case api.Seq:
		return set == typeFields{parts: set.parts, ext: set.ext, adds: set.ext && set.adds}
	case api.Choice:
		return set == typeFields{parts: true, ext: set.ext, adds: set.ext && set.adds}
	case api.SeqOf:
		return set == typeFields{con: set.con, ext: conExt, elem: true}
	case api.Ref:
		return set == typeFields{name: true}
	}
	return false
}

// isComponent tells whether a part of a sequence is well-formed.
func isComponent(p api.Part) bool {
	return token.Lower(p.Name) && isType(p.T) &&
		!(p.Opt && len(p.Def) > 0) && len(p.Def) <= 1 && every(p.Def, isDefault)
}

// isAlternative tells whether a part of a choice is well-formed.
func isAlternative(p api.Part) bool {
	return isComponent(p) && !p.Opt && len(p.Def) == 0
}

// valueFields records which fields of a value are set, beside its Kind.
type valueFields struct {
	n, s, names, l bool
}

// isDefault tells whether a value may be the default of a part.
func isDefault(v api.Value) bool {
	set := valueFields{n: v.N != 0, s: v.S != "", names: len(v.Names) > 0, l: len(v.L) > 0}
	switch v.Kind {
	case api.Bool:
		return set == valueFields{n: set.n} && (v.N == 0 || v.N == 1)
	case api.Int:
		return set == valueFields{n: set.n} && v.N != math.MinInt
	case api.Enum:
		return set == valueFields{s: true} && token.Lower(v.S)
	case api.Str:
		return set == valueFields{s: set.s} && areCharacters(v.S)
	}
	return false
}

// areCharacters tells whether s consists of characters of strings.
func areCharacters(s string) bool {
	for i := range len(s) {
		if s[i] < firstCharacter || s[i] > lastCharacter {
			return false
		}
	}
	return true
}

// isAlphabet tells whether s consists of characters of strings in strictly
// increasing order.
func isAlphabet(s string) bool {
	for i := 1; i < len(s); i++ {
		if s[i] <= s[i-1] {
			return false
		}
	}
	return areCharacters(s)
}
