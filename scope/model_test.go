package scope_test

import (
	"slices"

	"spandrel/api"
	"spandrel/shape"
)

// This file says step by step what the chapter says, however long it takes, so
// that it has nothing in common with the package that it tests.

// inside is the types that stand directly in a type.
func inside(t api.Type) []api.Type {
	l := slices.Clone(t.Elem)
	for _, p := range slices.Concat(t.Parts, t.Adds) {
		l = append(l, p.T)
	}
	return l
}

// somewhere tells whether something holds of a type, or of one anywhere in it.
func somewhere(t api.Type, holds func(api.Type) bool) bool {
	return holds(t) || slices.ContainsFunc(inside(t), func(x api.Type) bool { return somewhere(x, holds) })
}

// twice tells whether a text stands in a list at two places.
func twice(l []string) bool {
	for k, s := range l {
		if slices.Contains(l[:k], s) {
			return true
		}
	}
	return false
}

// clash tells whether two items, or two parts, have the same name.
func clash(t api.Type) bool {
	var parts []string
	for _, p := range slices.Concat(t.Parts, t.Adds) {
		parts = append(parts, p.Name)
	}
	return twice(slices.Concat(t.Names, t.More)) || twice(parts)
}

// own is the names that a module defines.
func own(m api.Module) []string {
	var l []string
	for _, d := range m.Defs {
		l = append(l, d.Name)
	}
	return l
}

// denoted is the full name of the type that a name in a module denotes; it is
// empty if there is none.
func denoted(m api.Module, name string) string {
	if slices.Contains(own(m), name) {
		return m.Name + "." + name
	}
	for _, i := range m.Imports {
		if slices.Contains(i.Names, name) {
			return i.From + "." + name
		}
	}
	return ""
}

// wrongImport tells whether a module imports a name from a module that is not
// there, or that does not define it itself.
func wrongImport(l []api.Module, m api.Module) bool {
	for _, i := range m.Imports {
		for _, name := range i.Names {
			if !slices.ContainsFunc(l, func(o api.Module) bool { return o.Name == i.From && slices.Contains(own(o), name) }) {
				return true
			}
		}
	}
	return false
}

// wrongName tells whether Resolve must answer ErrName.
func wrongName(l []api.Module) bool {
	var names []string
	for _, m := range l {
		names = append(names, m.Name)
		inModule := own(m)
		for _, i := range m.Imports {
			inModule = append(inModule, i.Names...)
		}
		if twice(inModule) || wrongImport(l, m) {
			return true
		}
		for _, d := range m.Defs {
			if somewhere(d.T, func(t api.Type) bool { return clash(t) || t.Kind == api.Ref && denoted(m, t.Name) == "" }) {
				return true
			}
		}
	}
	return twice(names)
}

// withFullNames is a type of a module with full names in it.
func withFullNames(m api.Module, t api.Type) api.Type {
	if t.Kind == api.Ref {
		t.Name = denoted(m, t.Name)
	}
	t.Elem, t.Parts, t.Adds = slices.Clone(t.Elem), slices.Clone(t.Parts), slices.Clone(t.Adds)
	for k := range t.Elem {
		t.Elem[k] = withFullNames(m, t.Elem[k])
	}
	for _, parts := range [][]api.Part{t.Parts, t.Adds} {
		for k := range parts {
			parts[k].T = withFullNames(m, parts[k].T)
		}
	}
	return t
}

// modelResolve is what Resolve must answer.
func modelResolve(l []api.Module) ([]api.Entry, api.Errno) {
	if len(l) > 256 || slices.ContainsFunc(l, func(m api.Module) bool { return !shape.Module(m) }) {
		return nil, api.ErrArg
	}
	if wrongName(l) {
		return nil, api.ErrName
	}
	var entries []api.Entry
	for _, m := range l {
		for _, d := range m.Defs {
			entries = append(entries, api.Entry{Module: m.Name, Name: d.Name, Auto: m.Auto, T: withFullNames(m, d.T)})
		}
	}
	if !modelFinite(entries) {
		return nil, api.ErrDeep
	}
	return entries, api.OK
}

// modelFind is what Find must answer.
func modelFind(l []api.Entry, name string) int {
	for k, e := range l {
		if e.Module+"."+e.Name == name {
			return k
		}
	}
	return -1
}

// modelFinite is what Finite must answer: from none on, more and more entries
// are known to be finite, until there are no more.
func modelFinite(l []api.Entry) bool {
	known, before := make([]bool, len(l)), []bool(nil)
	for !slices.Equal(known, before) {
		before = slices.Clone(known)
		for k, e := range l {
			known[k] = known[k] || ends(l, known, e.T)
		}
	}
	return !slices.Contains(known, false)
}

// ends tells whether a type is finite if those entries are that are known to be.
func ends(l []api.Entry, known []bool, t api.Type) bool {
	switch t.Kind {
	case 8:
		return !slices.ContainsFunc(t.Parts, func(p api.Part) bool { return !p.Opt && len(p.Def) == 0 && !ends(l, known, p.T) })
	case 9:
		c := t.Con
		if c.Op == 0 || c.Op == 1 && c.Low || c.Op == 1 && c.Lo <= 0 && c.High || c.Op == 1 && c.Lo <= 0 && c.Hi >= 0 {
			return true
		}
		return len(t.Elem) == 1 && ends(l, known, t.Elem[0])
	case 10:
		return slices.ContainsFunc(t.Parts, func(p api.Part) bool { return ends(l, known, p.T) })
	case 11:
		place := modelFind(l, t.Name)
		return place >= 0 && known[place]
	}
	return true
}
