package parse

import (
	"spandrel/api"
	"spandrel/token"
)

// noKind is the kind of what is no type.
const noKind = 0

// kind is the kind of the type that starts with a token. SEQUENCE starts one of
// two kinds; here it is Seq.
func kind(t token.Token) int {
	switch {
	case says(t, "BOOLEAN"):
		return api.Bool
	case says(t, "INTEGER"):
		return api.Int
	case says(t, "ENUMERATED"):
		return api.Enum
	case says(t, "NULL"):
		return api.Null
	case says(t, "BIT"):
		return api.Bits
	case says(t, "OCTET"):
		return api.Octets
	case says(t, "IA5String"):
		return api.Str
	case says(t, "SEQUENCE"):
		return api.Seq
	case says(t, "CHOICE"):
		return api.Choice
	case isReference(t):
		return api.Ref
	}
	return noKind
}

// outermost reads a type that is not nested in another one.
func (p *parser) outermost() api.Type {
	return p.typ(1)
}

// typ reads a type.
func (p *parser) typ(depth int) api.Type {
	t := api.Type{Kind: kind(p.next())}
	if t.Kind == noKind {
		p.fail()
	}
	p.limit(depth)
	first := p.skip()
	if t.Kind == api.Ref {
		t.Name = first.Text
	}
	p.rest(&t, depth)
	return t
}

// rest reads what stands behind the first word of a type.
func (p *parser) rest(t *api.Type, depth int) {
	switch t.Kind {
	case api.Int:
		if p.take("(") {
			p.bounds(t)
			p.need(")")
		}
	case api.Enum:
		p.need("{")
		t.Names, t.Ext, t.More = extensible(p, p.name)
		p.need("}")
	case api.Bits, api.Octets:
		p.need("STRING")
		p.size(t)
	case api.Str:
		p.alphabet(t)
		p.size(t)
	case api.Seq:
		if p.is("{") {
			p.parts(t, depth)
			return
		}
		t.Kind = api.SeqOf
		p.size(t)
		p.need("OF")
		t.Elem = []api.Type{p.typ(depth + 1)}
	case api.Choice:
		p.parts(t, depth)
	}
}

// alphabet reads the characters that a string may consist of, if it tells them.
func (p *parser) alphabet(t *api.Type) {
	if p.take("(", "FROM") {
		p.need("(")
		t.From = p.characters()
		p.need(")", ")")
	}
}

// size reads the constraint on how many elements there are, if there is one.
func (p *parser) size(t *api.Type) {
	if p.take("(") {
		p.need("SIZE", "(")
		p.bounds(t)
		p.need(")", ")")
	}
}

// parts reads the parts of a type of this depth, in braces.
func (p *parser) parts(t *api.Type, depth int) {
	part := func() api.Part { return p.part(depth + 1) }
	p.need("{")
	switch {
	case p.is("}"):
	case p.take("..."):
		t.Ext = true
		t.Adds = further(p, part)
	default:
		t.Parts, t.Ext, t.Adds = extensible(p, part)
	}
	p.need("}")
}

// extensible reads elements with commas between them, the first of which are
// there from the start; what has come since stands behind "...".
func extensible[E any](p *parser, element func() E) (first []E, ext bool, more []E) {
	first = []E{element()}
	for p.take(",") {
		if p.take("...") {
			return first, true, further(p, element)
		}
		first = append(first, element())
	}
	return first, false, nil
}

// part reads a part, whose type has this depth.
func (p *parser) part(depth int) api.Part {
	part := api.Part{Name: p.name(), T: p.typ(depth)}
	switch {
	case p.take("OPTIONAL"):
		part.Opt = true
	case p.take("DEFAULT"):
		part.Def = []api.Value{p.value()}
	}
	return part
}

// value reads the default of a part.
func (p *parser) value() api.Value {
	switch {
	case p.take("FALSE"):
		return api.Value{Kind: api.Bool}
	case p.take("TRUE"):
		return api.Value{Kind: api.Bool, N: 1}
	case isInteger(p.next()):
		return api.Value{Kind: api.Int, N: p.number()}
	case isQuoted(p.next()):
		return api.Value{Kind: api.Str, S: p.characters()}
	}
	return api.Value{Kind: api.Enum, S: p.name()}
}
