package scope

import "spandrel/api"

// graph tells which types make others finite by being so. It consists of the
// types of the entries, in order, and behind them of what stands in them as far
// as it matters, each type with a number.
type graph struct {
	places map[string]int
	// lacks tells of each type how many of those that it requires are not known
	// to be finite yet: with none left, or less than none, it is finite.
	lacks []int
	// requiredBy are for each type the numbers of those that require it.
	requiredBy [][]int
}

// newGraph is the graph of entries. Each type in it lacks all that it requires.
func newGraph(l []api.Entry) *graph {
	g := &graph{places: placesOf(l), lacks: make([]int, len(l)), requiredBy: make([][]int, len(l))}
	for n, e := range l {
		g.require(n, e.T)
	}
	return g
}

// require records what the type with a number requires.
func (g *graph) require(n int, t api.Type) {
	switch t.Kind {
	case api.Ref:
		g.lacks[n] = 1
		if place, found := g.places[t.Name]; found {
			g.requiredBy[place] = append(g.requiredBy[place], n)
		}
	case api.SeqOf:
		if admitsZero(t.Con) {
			return
		}
		g.lacks[n] = 1
		if len(t.Elem) == 1 {
			g.add(t.Elem[0], n)
		}
	case api.Seq:
		for _, p := range t.Parts {
			if !p.Opt && len(p.Def) == 0 {
				g.lacks[n]++
				g.add(p.T, n)
			}
		}
	case api.Choice:
		// One alternative is enough, whichever it is.
		g.lacks[n] = 1
		for _, p := range t.Parts {
			g.add(p.T, n)
		}
	}
}

// add adds a type that another one requires.
func (g *graph) add(t api.Type, by int) {
	n := len(g.lacks)
	g.lacks = append(g.lacks, 0)
	g.requiredBy = append(g.requiredBy, []int{by})
	g.require(n, t)
}

// settle finds all types that are finite, starting with those that require
// nothing.
func (g *graph) settle() {
	var settled []int
	for n, lack := range g.lacks {
		if isSettled(lack) {
			settled = append(settled, n)
		}
	}
	// The list grows as it is gone through.
	for k := 0; k < len(settled); k++ {
		for _, by := range g.requiredBy[settled[k]] {
			g.lacks[by]--
			if g.lacks[by] == 0 {
				settled = append(settled, by)
			}
		}
	}
}

// isSettled tells whether a type that lacks so many is known to be finite.
func isSettled(lack int) bool {
	return lack <= 0
}

// admitsZero tells whether a constraint on how many elements there are admits 0
// directly.
func admitsZero(c api.Con) bool {
	switch c.Op {
	case api.All:
		return true
	case api.Span:
		return c.Low || c.Lo <= 0 && (c.High || c.Hi >= 0)
	}
	return false
}
