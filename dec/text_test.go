package dec_test

import (
	"fmt"
	"math"
	"slices"
	"strconv"
	"strings"
	"testing"

	"spandrel/api"
	"spandrel/parse"
	"spandrel/scope"
	"spandrel/table"
)

// rows are the table of the first type of a text, with automatic tags. The text is
// a type, or has a line for each type, such as "A ::= NULL".
func rows(t *testing.T, text string) []api.Desc {
	t.Helper()
	return rowsOf(t, "AUTOMATIC TAGS ", text)
}

// untagged are the table of the first type of a text, without automatic tags.
func untagged(t *testing.T, text string) []api.Desc {
	t.Helper()
	return rowsOf(t, "", text)
}

// rowsOf are the table of the first type of a text, with this tagging.
func rowsOf(t *testing.T, tagging, text string) []api.Desc {
	t.Helper()
	if !strings.Contains(text, "::=") {
		text = "A ::= " + text
	}
	m, at, e := parse.Module([]byte("M DEFINITIONS " + tagging + "::= BEGIN\n" + text + "\nEND"))
	if e != api.OK {
		t.Fatalf("%q: %d %d", text, at, e)
	}
	l, e := scope.Resolve([]api.Module{m})
	if e != api.OK {
		t.Fatalf("%q: %d", text, e)
	}
	d, e := table.Lower(l, "M."+m.Defs[0].Name)
	if e != api.OK {
		t.Fatalf("%q: %d", text, e)
	}
	return d
}

// numbered are names with numbers from 0 on, separated by commas, each with
// something behind it.
func numbered(letter string, count int, behind string) string {
	var l []string
	for k := range count {
		l = append(l, letter+strconv.Itoa(k)+behind)
	}
	return strings.Join(l, ", ")
}

// Values of each Kind. The names of a Seq's parts are the words of a text.
func boolean(n int) api.Value       { return api.Value{Kind: api.Bool, N: n} }
func integer(n int) api.Value       { return api.Value{Kind: api.Int, N: n} }
func item(s string) api.Value       { return api.Value{Kind: api.Enum, S: s} }
func null() api.Value               { return api.Value{Kind: api.Null} }
func bits(s string) api.Value       { return api.Value{Kind: api.Bits, S: s} }
func octets(s string) api.Value     { return api.Value{Kind: api.Octets, S: s} }
func str(s string) api.Value        { return api.Value{Kind: api.Str, S: s} }
func list(l ...api.Value) api.Value { return api.Value{Kind: api.SeqOf, L: l} }
func alternative(s string, l ...api.Value) api.Value {
	return api.Value{Kind: api.Choice, S: s, L: l}
}
func seq(names string, l ...api.Value) api.Value {
	return api.Value{Kind: api.Seq, Names: strings.Fields(names), L: l}
}

// told is the text of a value: its Kind, and those fields that are set. Values have
// the same text if they are the same, and only then.
func told(v api.Value) string {
	var b strings.Builder
	tell(&b, v)
	return b.String()
}

// tell writes the text of a value.
func tell(b *strings.Builder, v api.Value) {
	b.WriteString(strconv.Itoa(v.Kind))
	if v.N != 0 {
		b.WriteString(" " + number(v.N))
	}
	if v.S != "" {
		b.WriteString(" " + strconv.Quote(v.S))
	}
	if len(v.Names) > 0 {
		fmt.Fprintf(b, " %q", v.Names)
	}
	if len(v.L) == 0 {
		return
	}
	b.WriteString(" {")
	for k, x := range v.L {
		if k > 0 {
			b.WriteString(", ")
		}
		tell(b, x)
	}
	b.WriteString("}")
}

// number is the text of an integer.
func number(n int) string {
	switch n {
	case math.MinInt:
		return "MIN"
	case math.MaxInt:
		return "MAX"
	}
	return strconv.Itoa(n)
}

// shown is a text that tells what something is, or how it begins.
func shown(x any) string {
	if v, is := x.(api.Value); is {
		x = told(v)
	}
	s := fmt.Sprintf("%+v", x)
	return s[:min(len(s), 1000)]
}

// all are values one behind the other in a Seq of so many parts, with the names
// p0, p1, and so on.
func all(l ...api.Value) api.Value {
	return api.Value{Kind: api.Seq, Names: strings.Split(numbered("p", len(l), ""), ", "), L: slices.Clone(l)}
}
