package tags

import (
	"slices"

	"spandrel/api"
)

// graph tells the tags of types, each of which has a number: first the types of
// the entries, by their places, and behind them others. An entry's type is gone
// through only if it is reached, so that a graph of few types stays small.
type graph struct {
	entries []api.Entry
	// places tells where the first entry with each full name is. It is made when
	// a name is looked for.
	places map[string]int
	// reached are the places of the entries that are reached.
	reached []int
	// sets are the tags of each type that are known so far. They are nil for an
	// entry that is not reached.
	sets []set
	// givesTo are for each type the numbers of those that have all of its tags.
	givesTo [][]int
	// grown are the numbers of types whose sets have grown, once for each time.
	grown []int
	// most is the greatest number of tags of a Choice with automatic tagging.
	most int
}

// newGraph returns the graph of entries none of which is reached.
func newGraph(l []api.Entry) *graph {
	return &graph{entries: l, sets: make([]set, len(l)), givesTo: make([][]int, len(l))}
}

// add adds a type, and returns its number.
func (g *graph) add(auto bool, t api.Type) int {
	n := len(g.sets)
	g.sets, g.givesTo = append(g.sets, set{}), append(g.givesTo, nil)
	g.enter(n, auto, t)
	return n
}

// reach lets the type of the entry at a place be gone through.
func (g *graph) reach(place int) {
	if g.sets[place] == nil {
		g.sets[place] = set{}
		g.reached = append(g.reached, place)
	}
}

// enter records which tags the type with a number, which is t or has it among its
// alternatives, has by t.
func (g *graph) enter(n int, auto bool, t api.Type) {
	switch {
	case t.Kind == api.Ref:
		g.refer(n, t.Name)
	case t.Kind != api.Choice:
		g.give(n, universal(t.Kind))
	case auto:
		g.giveAutomatic(n, len(t.Parts)+len(t.Adds))
	default:
		for _, p := range slices.Concat(t.Parts, t.Adds) {
			g.enter(n, false, p.T)
		}
	}
}

// refer lets the type with a number have all tags of the one with a full name.
func (g *graph) refer(n int, name string) {
	if place, found := g.find(name); found {
		g.reach(place)
		g.givesTo[place] = append(g.givesTo[place], n)
	}
}

// find returns the place of the first entry with a full name, and whether there
// is one. It finds what scope.Find does, which goes through all entries anew for
// each name; here, very many names may be looked for.
func (g *graph) find(name string) (int, bool) {
	if g.places == nil {
		g.places = make(map[string]int, len(g.entries))
		for place, e := range slices.Backward(g.entries) {
			g.places[e.Module+"."+e.Name] = place
		}
	}
	place, found := g.places[name]
	return place, found
}

// give adds tags to those of the type with a number.
func (g *graph) give(n int, tags set) {
	if g.sets[n].add(tags) > 0 {
		g.grown = append(g.grown, n)
	}
}

// giveAutomatic gives as many automatic tags to the type with a number.
func (g *graph) giveAutomatic(n, count int) {
	if count > 0 {
		g.give(n, set{firstAutomatic: {}})
	}
	g.most = max(g.most, count)
}

// settle goes through all entries that are reached, and hands each tag on to all
// types that have it, by however many references.
func (g *graph) settle() {
	// Both lists grow as they are gone through.
	for k := 0; k < len(g.reached); k++ {
		e := g.entries[g.reached[k]]
		g.enter(g.reached[k], e.Auto, e.T)
	}
	for k := 0; k < len(g.grown); k++ {
		n := g.grown[k]
		for _, to := range g.givesTo[n] {
			g.give(to, g.sets[n])
		}
	}
}
