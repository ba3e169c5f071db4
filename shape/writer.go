package shape

import (
	"strconv"
	"strings"

	"spandrel/api"
)

const (
	comma    = ", "
	ellipsis = "..."
)

// writer builds the text of what is well-formed.
type writer struct {
	strings.Builder
}

// put adds texts.
func (w *writer) put(texts ...string) {
	for _, text := range texts {
		w.WriteString(text)
	}
}

// con adds a constraint that is not All.
func (w *writer) con(c api.Con) {
	if c.Op == api.Span {
		w.span(c)
		return
	}
	for i, e := range c.L {
		if i > 0 {
			w.put(between(c.Op))
		}
		w.side(e)
	}
}

// side adds an element of a constraint.
func (w *writer) side(c api.Con) {
	if c.Op == api.Span {
		w.span(c)
		return
	}
	w.put("(")
	w.con(c)
	w.put(")")
}

// span adds a number, or two and what is between them.
func (w *writer) span(c api.Con) {
	if !c.Low && !c.High && c.Lo == c.Hi {
		w.put(strconv.Itoa(c.Lo))
		return
	}
	lo, hi := strconv.Itoa(c.Lo), strconv.Itoa(c.Hi)
	if c.Low {
		lo = "MIN"
	}
	if c.High {
		hi = "MAX"
	}
	w.put(lo, "..", hi)
}

// between is what stands between the elements of a constraint.
func between(op int) string {
	switch op {
	case api.Union:
		return " | "
	case api.Meet:
		return " ^ "
	}
	return " EXCEPT "
}

// typ adds a type.
func (w *writer) typ(t api.Type) {
	switch t.Kind {
	case api.Bool:
		w.put("BOOLEAN")
	case api.Int:
		w.put("INTEGER")
		w.bounds(t, " (", ")")
	case api.Enum:
		w.put("ENUMERATED ")
		braced(w, t.Names, t.Ext, t.More, w.name)
	case api.Null:
		w.put("NULL")
	case api.Bits:
		w.put("BIT STRING")
		w.size(t)
	case api.Octets:
		w.put("OCTET STRING")
		w.size(t)
	case api.Str:
		w.put("IA5String")
		if t.From != "" {
			w.put(" (FROM (", quoted(t.From), "))")
		}
		w.size(t)
	case api.Seq:
		w.put("SEQUENCE ")
		braced(w, t.Parts, t.Ext, t.Adds, w.part)
	case api.Choice:
		w.put("CHOICE ")
		braced(w, t.Parts, t.Ext, t.Adds, w.part)
	case api.SeqOf:
		w.put("SEQUENCE")
		w.size(t)
		w.put(" OF ")
		w.typ(t.Elem[0])
	case api.Ref:
		w.put(t.Name)
	}
}

// size adds the constraint of a type on how many elements there are.
func (w *writer) size(t api.Type) {
	w.bounds(t, " (SIZE (", "))")
}

// bounds adds the constraint of a type, if it has one, between two texts.
func (w *writer) bounds(t api.Type, before, behind string) {
	if t.Con.Op == api.All {
		return
	}
	w.put(before)
	w.con(t.Con)
	if t.Ext {
		w.put(comma, ellipsis)
	}
	w.put(behind)
}

// braced adds a list in braces: what is there from the start and, if there may
// be more, what has come since.
func braced[E any](w *writer, first []E, ext bool, more []E, add func(E)) {
	w.put("{")
	separator := " "
	for _, e := range first {
		w.put(separator)
		add(e)
		separator = comma
	}
	if ext {
		w.put(separator, ellipsis)
	}
	for _, e := range more {
		w.put(comma)
		add(e)
	}
	w.put(" }")
}

// name adds an item of an enumeration.
func (w *writer) name(s string) {
	w.put(s)
}

// part adds a component of a sequence, or an alternative of a choice.
func (w *writer) part(p api.Part) {
	w.put(p.Name, " ")
	w.typ(p.T)
	if p.Opt {
		w.put(" OPTIONAL")
	}
	for _, v := range p.Def {
		w.put(" DEFAULT ", value(v))
	}
}

// value is the text of a default value.
func value(v api.Value) string {
	switch {
	case v.Kind == api.Int:
		return strconv.Itoa(v.N)
	case v.Kind == api.Enum:
		return v.S
	case v.Kind == api.Str:
		return quoted(v.S)
	case v.N == 0:
		return "FALSE"
	}
	return "TRUE"
}

// quoted puts a string in quotes.
func quoted(s string) string {
	return `"` + strings.ReplaceAll(s, `"`, `""`) + `"`
}

// module adds a module.
func (w *writer) module(m api.Module) {
	w.put(m.Name, " DEFINITIONS")
	if m.Auto {
		w.put(" AUTOMATIC TAGS")
	}
	w.put(" ::= BEGIN\n")
	if len(m.Imports) > 0 {
		w.imports(m.Imports)
	}
	for _, d := range m.Defs {
		w.put(d.Name, " ::= ")
		w.typ(d.T)
		w.put("\n")
	}
	w.put("END\n")
}

// imports adds the line of all imports.
func (w *writer) imports(l []api.Import) {
	w.put("IMPORTS")
	for _, i := range l {
		w.put(" ", strings.Join(i.Names, comma), " FROM ", i.From)
	}
	w.put(";\n")
}
