package parse

import "spandrel/api"

// bounds reads the constraint of a type, which may be extensible.
func (p *parser) bounds(t *api.Type) {
	t.Con = p.con(1)
	if p.take(",") {
		p.need("...")
		t.Ext = true
	}
}

// con reads a constraint. It starts with a side, which makes sure that it is not
// nested too deep.
func (p *parser) con(depth int) api.Con {
	first := p.side(depth)
	switch {
	case p.is("|"):
		return api.Con{Op: api.Union, L: p.sides(first, "|", depth)}
	case p.is("^"):
		return api.Con{Op: api.Meet, L: p.sides(first, "^", depth)}
	case p.take("EXCEPT"):
		return api.Con{Op: api.Except, L: []api.Con{first, p.side(depth)}}
	}
	return first
}

// sides reads the sides behind the first one, each behind the same sign.
func (p *parser) sides(first api.Con, between string, depth int) []api.Con {
	l := []api.Con{first}
	for p.take(between) {
		l = append(l, p.side(depth))
	}
	return l
}

// side reads a side of a constraint of this depth.
func (p *parser) side(depth int) api.Con {
	if !isInteger(p.next()) && !p.is("MIN") && !p.is("(") {
		p.fail()
	}
	p.limit(depth)
	if p.take("(") {
		c := p.con(depth + 1)
		p.need(")")
		return c
	}
	return p.span()
}

// span reads a number, or two ends and what is between them.
func (p *parser) span() api.Con {
	c := api.Con{Op: api.Span, Low: p.take("MIN")}
	if !c.Low {
		c.Lo = p.number()
		if !p.is("..") {
			c.Hi = c.Lo
			return c
		}
	}
	p.need("..")
	c.High = p.take("MAX")
	if !c.High {
		c.Hi = p.number()
	}
	return c
}
