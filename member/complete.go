package member

import "spandrel/api"

// completed returns a value of the row with all defaults, in lists of its own.
func (r row) completed(v api.Value) api.Value {
	c := api.Value{Kind: v.Kind, N: v.N, S: v.S}
	switch r.Kind {
	case api.SeqOf:
		for _, x := range v.L {
			c.L = append(c.L, r.elem().completed(x))
		}
	case api.Choice:
		p, _ := r.named(v.S)
		c.L = []api.Value{r.of(p).completed(v.L[0])}
	case api.Seq:
		c.Names, c.L = r.completedParts(v)
	}
	return c
}

// completedParts returns the names and values of the parts of a value of the row,
// and of those parts that have a default.
func (r row) completedParts(v api.Value) ([]string, []api.Value) {
	var names []string
	var l []api.Value
	next := 0
	for k := range r.count() {
		p := r.part(k)
		own := p.Def
		if next < len(v.Names) && v.Names[next] == p.Name {
			own = v.L[next : next+1]
			next++
		}
		for _, x := range own {
			names, l = append(names, p.Name), append(l, r.of(p).completed(x))
		}
	}
	return names, l
}
