package parse

import "spandrel/api"

// module reads a module.
func (p *parser) module() api.Module {
	m := api.Module{Name: p.reference()}
	p.need("DEFINITIONS")
	if p.take("AUTOMATIC") {
		p.need("TAGS")
		m.Auto = true
	}
	p.need("::=", "BEGIN")
	if p.take("IMPORTS") {
		m.Imports = p.imports()
	}
	for !p.take("END") {
		m.Defs = append(m.Defs, p.definition())
	}
	return m
}

// imports reads imports, one at least, up to the sign behind them.
func (p *parser) imports() []api.Import {
	l := []api.Import{p.imported()}
	for !p.take(";") {
		l = append(l, p.imported())
	}
	return l
}

// imported reads the names that another module has.
func (p *parser) imported() api.Import {
	names := []string{p.reference()}
	names = append(names, further(p, p.reference)...)
	p.need("FROM")
	return api.Import{Names: names, From: p.reference()}
}

// definition reads a type's name, and what it is.
func (p *parser) definition() api.Def {
	name := p.reference()
	p.need("::=")
	return api.Def{Name: name, T: p.outermost()}
}
