package parse_test

import (
	"reflect"
	"strings"
	"testing"

	"spandrel/api"
	"spandrel/parse"
	"spandrel/shape"
	"spandrel/token"
)

// This file holds the chapter's grammar as a text, by which all ways to read a
// list of tokens are followed side by side, so that it has nothing in common
// with the package that it tests.

// grammar has a line for each alternative of a rule. What is no rule is a word
// or a sign, but for N, up, low and txt.
const grammar = `
module: up DEFINITIONS auto ::= BEGIN imports defs END
auto:
auto: AUTOMATIC TAGS
imports:
imports: IMPORTS import moreimports ;
moreimports:
moreimports: import moreimports
import: up moreups FROM up
moreups:
moreups: , up moreups
defs:
defs: def defs
def: up ::= type
type: BOOLEAN
type: NULL
type: INTEGER
type: INTEGER ( bounds )
type: ENUMERATED { low items }
type: BIT STRING size
type: OCTET STRING size
type: IA5String size
type: IA5String ( FROM ( txt ) ) size
type: SEQUENCE { parts }
type: SEQUENCE size OF type
type: CHOICE { parts }
type: up
size:
size: ( SIZE ( bounds ) )
bounds: con ext
ext:
ext: , ...
con: side sides
sides:
sides: | side union
sides: ^ side meet
sides: EXCEPT side
union:
union: | side union
meet:
meet: ^ side meet
side: N
side: N .. N
side: N .. MAX
side: MIN .. N
side: MIN .. MAX
side: ( con )
items:
items: , low items
items: , ... lows
lows:
lows: , low lows
parts:
parts: part moreparts
parts: ... adds
moreparts:
moreparts: , part moreparts
moreparts: , ... adds
adds:
adds: , part adds
part: low type otherwise
otherwise:
otherwise: OPTIONAL
otherwise: DEFAULT value
value: TRUE
value: FALSE
value: N
value: low
value: txt
`

// nodes are the rules that are nodes of the tree of what is read.
const nodes = " module import def type con side part "

// rules are the alternatives of each rule.
var rules = alternatives()

func alternatives() map[string][][]string {
	l := map[string][][]string{}
	for line := range strings.Lines(strings.TrimSpace(grammar)) {
		name, symbols, _ := strings.Cut(line, ":")
		l[name] = append(l[name], strings.Fields(symbols))
	}
	return l
}

// way is a way to read the tokens up to a place: what must follow, how many
// types and constraints are open, and all that was read and entered.
type way struct {
	stack      *stacked
	types, con int
	history    *event
}

// stacked is a symbol that must follow, and what must follow it. One that
// begins with / is the end of a rule.
type stacked struct {
	symbol string
	next   *stacked
}

// event is the start or the end of a rule, or a token, and the event ahead of it.
type event struct {
	symbol string
	token  token.Token
	before *event
}

// expand lets a way end in all the words, signs and classes that may be next, or
// in the end of the text.
func expand(w way, give func(way)) {
	if w.stack == nil {
		give(w)
		return
	}
	symbol := w.stack.symbol
	w.stack = w.stack.next
	if strings.HasPrefix(symbol, "/") {
		w.count(symbol[1:], -1)
		w.history = &event{symbol, token.Token{}, w.history}
		expand(w, give)
		return
	}
	if rules[symbol] == nil {
		w.stack = &stacked{symbol, w.stack}
		give(w)
		return
	}
	if strings.Contains(nodes, " "+symbol+" ") {
		w.count(symbol, 1)
		w.history = &event{symbol, token.Token{}, w.history}
		w.stack = &stacked{"/" + symbol, w.stack}
	}
	for _, symbols := range rules[symbol] {
		v := w
		for k := len(symbols) - 1; k >= 0; k-- {
			v.stack = &stacked{symbols[k], v.stack}
		}
		expand(v, give)
	}
}

// count counts a type or a constraint that is opened or closed.
func (w *way) count(rule string, n int) {
	switch rule {
	case "type":
		w.types += n
	case "con":
		w.con += n
	}
}

// matches tells whether a token is as a symbol says.
func matches(symbol string, t token.Token) bool {
	switch symbol {
	case "N":
		return t.Kind == 2
	case "txt":
		return t.Kind == 4
	case "low":
		return t.Kind == 1 && token.Lower(t.Text)
	case "up":
		return t.Kind == 1 && shape.Type(api.Type{Kind: api.Ref, Name: t.Text})
	}
	return t.Kind != 4 && t.Text == symbol
}

// follow reads a text by a rule. The ways are those that end behind all of it.
func follow(rule, text string) ([]way, int, api.Errno) {
	tokens, at, e := token.Scan([]byte(text))
	if e != api.OK {
		return nil, at, e
	}
	ways := []way{{stack: &stacked{rule, nil}}}
	for _, t := range tokens {
		var next []way
		for _, w := range ways {
			expand(w, func(w way) {
				if w.stack != nil && matches(w.stack.symbol, t) {
					w.stack, w.history = w.stack.next, &event{"", t, w.history}
					next = append(next, w)
				}
			})
		}
		if len(next) == 0 {
			return nil, t.At, api.ErrText
		}
		if next[0].types > 40 || next[0].con > 40 {
			return nil, t.At, api.ErrDeep
		}
		ways = next
	}
	var whole []way
	for _, w := range ways {
		expand(w, func(w way) {
			if w.stack == nil {
				whole = append(whole, w)
			}
		})
	}
	if len(whole) == 0 {
		return nil, len(text), api.ErrText
	}
	return whole, len(text), api.OK
}

// node is a rule with what stands in it, or a token.
type node struct {
	rule  string
	token token.Token
	kids  []*node
}

// tree is the tree of all that a way has read.
func tree(w way) *node {
	var events []*event
	for e := w.history; e != nil; e = e.before {
		events = append(events, e)
	}
	open := []*node{{}}
	for k := len(events) - 1; k >= 0; k-- {
		e, last := events[k], open[len(open)-1]
		if strings.HasPrefix(e.symbol, "/") {
			open = open[:len(open)-1]
			continue
		}
		n := &node{rule: e.symbol, token: e.token}
		last.kids = append(last.kids, n)
		if e.symbol != "" {
			open = append(open, n)
		}
	}
	return open[0].kids[0]
}

// conOf is the constraint that a tree says.
func conOf(n *node) api.Con {
	if len(n.kids) == 1 {
		return sideOf(n.kids[0])
	}
	c := api.Con{Op: map[string]int{"|": 2, "^": 3, "EXCEPT": 4}[n.kids[1].token.Text]}
	for k := 0; k < len(n.kids); k += 2 {
		c.L = append(c.L, sideOf(n.kids[k]))
	}
	return c
}

// sideOf is conOf for a side.
func sideOf(n *node) api.Con {
	if n.kids[0].token.Text == "(" {
		return conOf(n.kids[1])
	}
	lo, hi := n.kids[0].token, n.kids[len(n.kids)-1].token
	return api.Con{Op: 1, Lo: lo.N, Hi: hi.N, Low: lo.Text == "MIN", High: hi.Text == "MAX"}
}

// typeOf is the type that a tree says.
func typeOf(n *node) api.Type {
	first := n.kids[0].token.Text
	t := api.Type{Kind: map[string]int{"BOOLEAN": 1, "INTEGER": 2, "ENUMERATED": 3, "NULL": 4, "BIT": 5, "OCTET": 6, "IA5String": 7, "SEQUENCE": 8, "CHOICE": 10}[first]}
	if t.Kind == 0 {
		return api.Type{Kind: 11, Name: first}
	}
	names, parts := &t.Names, &t.Parts
	for _, k := range n.kids {
		switch {
		case k.rule == "con":
			t.Con = conOf(k)
		case k.rule == "part":
			*parts = append(*parts, partOf(k))
		case k.rule == "type":
			t.Kind, t.Elem = 9, []api.Type{typeOf(k)}
		case k.token.Kind == 4:
			t.From = k.token.Text
		case k.token.Text == "...":
			t.Ext = true
			names, parts = &t.More, &t.Adds
		case k.token.Kind == 1 && 'a' <= k.token.Text[0]:
			*names = append(*names, k.token.Text)
		}
	}
	return t
}

// partOf is the part that a tree says.
func partOf(n *node) api.Part {
	p := api.Part{Name: n.kids[0].token.Text, T: typeOf(n.kids[1])}
	switch len(n.kids) {
	case 3:
		p.Opt = true
	case 4:
		v := n.kids[3].token
		switch {
		case v.Kind == 2:
			p.Def = []api.Value{{Kind: 2, N: v.N}}
		case v.Kind == 4:
			p.Def = []api.Value{{Kind: 7, S: v.Text}}
		case v.Text == "TRUE":
			p.Def = []api.Value{{Kind: 1, N: 1}}
		case v.Text == "FALSE":
			p.Def = []api.Value{{Kind: 1, N: 0}}
		default:
			p.Def = []api.Value{{Kind: 3, S: v.Text}}
		}
	}
	return p
}

// moduleOf is the module that a tree says.
func moduleOf(n *node) api.Module {
	m := api.Module{Name: n.kids[0].token.Text}
	for _, k := range n.kids {
		switch {
		case k.token.Text == "AUTOMATIC":
			m.Auto = true
		case k.rule == "import":
			var words []string
			for _, name := range k.kids {
				if name.token.Text != "," {
					words = append(words, name.token.Text)
				}
			}
			m.Imports = append(m.Imports, api.Import{Names: words[:len(words)-2], From: words[len(words)-1]})
		case k.rule == "def":
			m.Defs = append(m.Defs, api.Def{Name: k.kids[0].token.Text, T: typeOf(k.kids[2])})
		}
	}
	return m
}

// model is what is read by a rule, as of makes it of a tree: what Type and
// Module must answer.
func model[T any](t *testing.T, rule, text string, of func(*node) T, well func(T) bool) (T, int, api.Errno) {
	t.Helper()
	var none T
	ways, at, e := follow(rule, text)
	if e != api.OK {
		return none, at, e
	}
	if len(ways) != 1 {
		t.Fatalf("%.500q: %d ways to read it", text, len(ways))
	}
	if x := of(tree(ways[0])); well(x) {
		return x, at, e
	}
	return none, at, api.ErrText
}

// modelType holds all that Type answers against the model, and tells the error.
func modelType(t *testing.T, text string) api.Errno {
	t.Helper()
	want, at, e := model(t, "type", text, typeOf, shape.Type)
	got, gotAt, gotE := parse.Type([]byte(text))
	if gotE != e || gotAt != at || !equal(got, want) {
		t.Fatalf("%.2000q:\n%+v %d %d, not\n%+v %d %d", text, got, gotAt, gotE, want, at, e)
	}
	if e != api.OK {
		return e
	}
	checkAgain(t, got, shape.Type, shape.TypeText, parse.Type)
	return e
}

// modelModule is modelType for Module.
func modelModule(t *testing.T, text string) api.Errno {
	t.Helper()
	want, at, e := model(t, "module", text, moduleOf, shape.Module)
	got, gotAt, gotE := parse.Module([]byte(text))
	if gotE != e || gotAt != at || !equal(got, want) {
		t.Fatalf("%.2000q:\n%+v %d %d, not\n%+v %d %d", text, got, gotAt, gotE, want, at, e)
	}
	if e != api.OK {
		return e
	}
	checkAgain(t, got, shape.Module, shape.ModuleText, parse.Module)
	return e
}

// checkAgain holds what was read against P9.2: it is well-formed, and its text
// says the same, unless it is too long to be read.
func checkAgain[T any](t *testing.T, x T, well func(T) bool, text func(T) string, read func([]byte) (T, int, api.Errno)) {
	t.Helper()
	s := text(x)
	if !well(x) || s == "" {
		t.Fatalf("%.500q is not well-formed", s)
	}
	got, at, e := read([]byte(s))
	if len(s) > api.MaxText {
		var none T
		x, s = none, ""
		if e != api.ErrLarge {
			t.Fatalf("%.500q: %d", s, e)
		}
	} else if e != api.OK {
		t.Fatalf("%.500q: %d %d", s, at, e)
	}
	if at != len(s) || !equal(got, x) {
		t.Fatalf("%.500q: %+v %d, not %+v", s, got, at, x)
	}
}

// own is a copy of a value that shares no list with it. Lists without elements
// are nil in it.
func own[T any](x T) T {
	v := reflect.New(reflect.TypeOf(x)).Elem()
	v.Set(reflect.ValueOf(x))
	part(v)
	return v.Interface().(T)
}

// part gives a value lists of its own.
func part(v reflect.Value) {
	switch v.Kind() {
	case reflect.Struct:
		for k := range v.NumField() {
			part(v.Field(k))
		}
	case reflect.Slice:
		l := reflect.Zero(v.Type())
		for k := range v.Len() {
			l = reflect.Append(l, v.Index(k))
		}
		v.Set(l)
		for k := range v.Len() {
			part(v.Index(k))
		}
	}
}

// equal tells whether two values differ in nothing, or in whether lists without
// elements are nil.
func equal[T any](a, b T) bool {
	return reflect.DeepEqual(own(a), own(b))
}
