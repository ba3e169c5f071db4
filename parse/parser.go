package parse

import (
	"spandrel/api"
	"spandrel/shape"
	"spandrel/token"
)

// The kinds of tokens.
const (
	end     = 0
	word    = 1
	integer = 2
	sign    = 3
	quoted  = 4
)

// wrong and deep are what parsing is ended by, in a panic. Each is an offset:
// that of the first token that cannot continue the text, or that of the token at
// which something starts that is nested too deep.
type (
	wrong int
	deep  int
)

// parser is the tokens that are left to read. The last one stands for the end of
// the text, so that there is always a next one: no rule reads it.
type parser struct {
	tokens []token.Token
}

// newParser is a parser of all tokens of a text of this length.
func newParser(tokens []token.Token, length int) *parser {
	return &parser{append(tokens, token.Token{Kind: end, At: length})}
}

// next is the token that is read next.
func (p *parser) next() token.Token {
	return p.tokens[0]
}

// fail ends parsing because the next token cannot continue the text.
func (p *parser) fail() {
	panic(wrong(p.next().At))
}

// limit ends parsing if what starts with the next token is nested too deep.
func (p *parser) limit(depth int) {
	if depth > api.MaxDeep {
		panic(deep(p.next().At))
	}
}

// skip reads the next token, whatever it is.
func (p *parser) skip() token.Token {
	t := p.next()
	p.tokens = p.tokens[1:]
	return t
}

// one reads a token, which must be as is tells.
func (p *parser) one(is func(token.Token) bool) token.Token {
	if !is(p.next()) {
		p.fail()
	}
	return p.skip()
}

// end makes sure that nothing is left.
func (p *parser) end() {
	if p.next().Kind != end {
		p.fail()
	}
}

// is tells whether the next token is a certain word or sign.
func (p *parser) is(text string) bool {
	return says(p.next(), text)
}

// take reads certain words and signs if they come next, all of them, and tells
// whether they do.
func (p *parser) take(texts ...string) bool {
	for i, text := range texts {
		// The token of the end is none of them, so nothing behind it is asked.
		if !says(p.tokens[i], text) {
			return false
		}
	}
	p.tokens = p.tokens[len(texts):]
	return true
}

// need reads certain words and signs, which must come next.
func (p *parser) need(texts ...string) {
	for _, text := range texts {
		if !p.take(text) {
			p.fail()
		}
	}
}

// reference reads the name of a type or of a module.
func (p *parser) reference() string {
	return p.one(isReference).Text
}

// name reads the name of an item or of a part.
func (p *parser) name() string {
	return p.one(isName).Text
}

// number reads an integer.
func (p *parser) number() int {
	return p.one(isInteger).N
}

// characters reads a quoted string.
func (p *parser) characters() string {
	return p.one(isQuoted).Text
}

// says tells whether a token is a certain word or sign. None of these has the
// text of a token of the other kind.
func says(t token.Token, text string) bool {
	return (t.Kind == word || t.Kind == sign) && t.Text == text
}

// isReference tells whether a token may name a type or a module.
func isReference(t token.Token) bool {
	return t.Kind == word && token.Upper(t.Text) && !shape.Keyword(t.Text)
}

// isName tells whether a token may name an item or a part.
func isName(t token.Token) bool {
	return t.Kind == word && token.Lower(t.Text)
}

// isInteger tells whether a token is an integer.
func isInteger(t token.Token) bool {
	return t.Kind == integer
}

// isQuoted tells whether a token is a quoted string.
func isQuoted(t token.Token) bool {
	return t.Kind == quoted
}

// further reads elements, each behind a comma.
func further[E any](p *parser, element func() E) []E {
	var l []E
	for p.take(",") {
		l = append(l, element())
	}
	return l
}
