package table_test

import (
	"fmt"
	"math"
	"strconv"
	"strings"
	"testing"

	"spandrel/api"
	"spandrel/parse"
)

// typ is the type of a text in which a full name has a hyphen for its dot. An
// empty text is a type of no Kind.
func typ(t *testing.T, text string) api.Type {
	t.Helper()
	if text == "" {
		return api.Type{}
	}
	x, at, e := parse.Type([]byte(text))
	if e != api.OK {
		t.Fatalf("%q: %d %d", text, at, e)
	}
	return withDots(x)
}

// withDots is a type in which the first hyphen of each Ref is a dot.
func withDots(x api.Type) api.Type {
	x.Name = strings.Replace(x.Name, "-", ".", 1)
	for k := range x.Elem {
		x.Elem[k] = withDots(x.Elem[k])
	}
	for _, parts := range [][]api.Part{x.Parts, x.Adds} {
		for k := range parts {
			parts[k].T = withDots(parts[k].T)
		}
	}
	return x
}

// ref is a Ref, part a part, and seqOf a list of a type.
func ref(name string) api.Type                  { return api.Type{Kind: api.Ref, Name: name} }
func part(name string, x api.Type) api.Part     { return api.Part{Name: name, T: x} }
func optional(name string, x api.Type) api.Part { return api.Part{Name: name, T: x, Opt: true} }
func seqOf(x api.Type) api.Type                 { return api.Type{Kind: api.SeqOf, Elem: []api.Type{x}} }

// entry is the entry with a full name, whose first dot is behind the module's.
func entry(name string, auto bool, x api.Type) api.Entry {
	module, own, _ := strings.Cut(name, ".")
	return api.Entry{Module: module, Name: own, Auto: auto, T: x}
}

// entries are the entries of a text, which has a line for each of them, such as
// "M-A ::= NULL", or "auto M-A ::= NULL".
func entries(t *testing.T, text string) []api.Entry {
	t.Helper()
	var l []api.Entry
	for line := range strings.Lines(text) {
		line, auto := strings.CutPrefix(strings.TrimSpace(line), "auto ")
		name, body, _ := strings.Cut(line, " ::=")
		l = append(l, entry(strings.Replace(name, "-", ".", 1), auto, typ(t, strings.TrimSpace(body))))
	}
	return l
}

// kindNames are the names of the Kinds in the texts of rows.
var kindNames = []string{"None", "Bool", "Int", "Enum", "Null", "Bits", "Octets", "Str", "Seq", "SeqOf", "Choice"}

// number is the text of an integer.
func number(n int) string {
	switch n {
	case math.MinInt:
		return "MIN"
	case math.MaxInt:
		return "MAX"
	}
	return strconv.Itoa(n)
}

// told is the text of a table, which has a line for each row. It tells each field
// that has not the value zero: a word for the Kind, "ext", the Set, Lo and Hi in
// brackets, From in quotes, the Names, More with + ahead of each, Parts with their
// rows, Adds likewise with +, Order in < >, and the row of Elem.
func told(d []api.Desc) string {
	var lines []string
	for _, r := range d {
		lines = append(lines, strings.Join(words(r), " "))
	}
	return strings.Join(lines, "\n")
}

// words are the words of a row.
func words(r api.Desc) []string {
	l := []string{fmt.Sprint("Kind", r.Kind)}
	if r.Kind >= 0 && r.Kind < len(kindNames) {
		l[0] = kindNames[r.Kind]
	}
	if r.Ext {
		l = append(l, "ext")
	}
	for _, x := range r.Set {
		l = append(l, number(x.Lo)+".."+number(x.Hi))
	}
	if len(r.Set) > 0 || r.Lo != 0 || r.Hi != 0 {
		l = append(l, "["+number(r.Lo)+" "+number(r.Hi)+"]")
	}
	if r.From != "" {
		l = append(l, strconv.Quote(r.From))
	}
	l = append(l, r.Names...)
	for _, s := range r.More {
		l = append(l, "+"+s)
	}
	for _, p := range r.Parts {
		l = append(l, partWord(p))
	}
	for _, p := range r.Adds {
		l = append(l, "+"+partWord(p))
	}
	if len(r.Order) > 0 {
		l = append(l, strings.NewReplacer("[", "<", "]", ">").Replace(fmt.Sprint(r.Order)))
	}
	if r.Elem != 0 || r.Kind == api.SeqOf {
		l = append(l, "of "+number(r.Elem))
	}
	return l
}

// partWord is the word of a part: its name, its row, ? if it has Opt, and its
// Def.
func partWord(p api.Field) string {
	s := p.Name + ":" + number(p.T)
	if p.Opt {
		s += "?"
	}
	for _, v := range p.Def {
		s += "=" + valueWord(v)
	}
	return s
}

// valueWord is the word of a value.
func valueWord(v api.Value) string {
	s := fmt.Sprintf("%d/%d/%s", v.Kind, v.N, v.S)
	if len(v.Names) > 0 || len(v.L) > 0 {
		s += fmt.Sprint("{", strings.Join(v.Names, ","))
		for _, x := range v.L {
			s += ";" + valueWord(x)
		}
		s += "}"
	}
	return s
}

// lines is a text without white space at the ends of its lines.
func lines(text string) string {
	var l []string
	for line := range strings.Lines(text) {
		l = append(l, strings.TrimSpace(line))
	}
	return strings.Join(l, "\n")
}

// shown is a text that tells what something is.
func shown(x any) string {
	s := fmt.Sprintf("%+v", x)
	return s[:min(len(s), 3000)]
}
