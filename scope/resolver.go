package scope

import (
	"slices"

	"spandrel/api"
)

// resolver resolves the names in one module after the other.
type resolver struct {
	// entries are the types of all modules. The first ones, as many as done says,
	// are resolved; the others are there for their full names alone.
	entries []api.Entry
	done    int
	// places tells where in entries each full name is.
	places map[string]int
	// names tells where in entries the types are that names denote in one module.
	names map[string]int
}

// newResolver is a resolver to which no module has been given yet.
func newResolver(l []api.Module) *resolver {
	var entries []api.Entry
	for _, m := range l {
		for _, d := range m.Defs {
			entries = append(entries, api.Entry{Module: m.Name, Name: d.Name, Auto: m.Auto})
		}
	}
	return &resolver{entries: entries, places: placesOf(entries), names: map[string]int{}}
}

// resolve resolves the names in the next module, and tells whether all of them
// are as they must be.
func (r *resolver) resolve(m api.Module) bool {
	clear(r.names)
	if !r.define(m.Defs) || !every(m.Imports, r.importFrom) {
		return false
	}
	for _, d := range m.Defs {
		if !r.accepts(d.T) {
			return false
		}
		r.entries[r.done].T = r.full(d.T)
		r.done++
	}
	return true
}

// define enters the names of the next module's own types.
func (r *resolver) define(l []api.Def) bool {
	for k, d := range l {
		if !r.enter(d.Name, r.done+k) {
			return false
		}
	}
	return true
}

// importFrom enters the names of types that another module defines itself.
func (r *resolver) importFrom(i api.Import) bool {
	return every(i.Names, func(name string) bool {
		place, defined := r.places[fullName(i.From, name)]
		return defined && r.enter(name, place)
	})
}

// enter lets a name denote a type, unless it denotes one already.
func (r *resolver) enter(name string, place int) bool {
	if r.denotes(name) {
		return false
	}
	r.names[name] = place
	return true
}

// denotes tells whether a name denotes a type.
func (r *resolver) denotes(name string) bool {
	_, entered := r.names[name]
	return entered
}

// accepts tells whether each name in a type that must denote another type does,
// and those that must be distinct are.
func (r *resolver) accepts(t api.Type) bool {
	if t.Kind == api.Ref {
		return r.denotes(t.Name)
	}
	return distinct(itself, t.Names, t.More) && distinct(nameOfPart, t.Parts, t.Adds) &&
		every(t.Parts, r.acceptsPart) && every(t.Adds, r.acceptsPart) && every(t.Elem, r.accepts)
}

// acceptsPart is accepts for the type of a part.
func (r *resolver) acceptsPart(p api.Part) bool {
	return r.accepts(p.T)
}

// full is a type with full names in it. It shares no list with the type as it
// was.
func (r *resolver) full(t api.Type) api.Type {
	if t.Kind == api.Ref {
		e := r.entries[r.names[t.Name]]
		return api.Type{Kind: api.Ref, Name: fullName(e.Module, e.Name)}
	}
	t.Con = ownCon(t.Con)
	t.Names, t.More = slices.Clone(t.Names), slices.Clone(t.More)
	t.Parts, t.Adds = each(t.Parts, r.fullPart), each(t.Adds, r.fullPart)
	t.Elem = each(t.Elem, r.full)
	return t
}

// fullPart is full for a part.
func (r *resolver) fullPart(p api.Part) api.Part {
	p.T = r.full(p.T)
	p.Def = each(p.Def, ownDefault)
	return p
}
