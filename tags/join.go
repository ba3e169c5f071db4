package tags

import (
	"slices"

	"spandrel/api"
)

// join adds the tags of a type, without automatic tagging, to a set. It tells
// whether none of them was there, and whether anywhere in the type all parts that
// must be distinguishable have different tags.
func (g *graph) join(s set, t api.Type) bool {
	if t.Kind == api.Choice {
		// Its tags are those of its parts, so that these join the same set. There,
		// they meet one another, and what the Choice itself must differ from.
		return g.joinParts(s, t) && g.joinAlone(t.Elem)
	}
	tags := g.tagsOf(t)
	return g.joinParts(set{}, t) && g.joinAlone(t.Elem) && s.add(tags) == len(tags)
}

// joinAlone is join for types each of which has a set of its own.
func (g *graph) joinAlone(l []api.Type) bool {
	return !slices.ContainsFunc(l, func(t api.Type) bool { return !g.join(set{}, t) })
}

// joinParts is join for the parts of a type. In the set are always the tags of
// those parts from which the next one must be distinguishable.
func (g *graph) joinParts(s set, t api.Type) bool {
	for k, p := range slices.Concat(t.Parts, t.Adds) {
		if !g.join(s, p.T) {
			return false
		}
		isAdded := k >= len(t.Parts)
		if !staysAhead(t.Kind, p, isAdded) {
			clear(s)
		}
	}
	return true
}

// staysAhead tells whether the next part of a type must be distinguishable from
// this one, and from all from which this one must be: in a Seq, if this one may
// be missing.
func staysAhead(kind int, p api.Part, isAdded bool) bool {
	switch kind {
	case api.Choice:
		return true
	case api.Seq:
		return p.Opt || len(p.Def) > 0 || isAdded
	}
	return false
}

// tagsOf returns the tags of a type that is no Choice.
func (g *graph) tagsOf(t api.Type) set {
	if t.Kind != api.Ref {
		return universal(t.Kind)
	}
	if place, found := g.find(t.Name); found {
		return g.sets[place]
	}
	return nil
}
