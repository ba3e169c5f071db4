package parse_test

import (
	"strings"
	"testing"

	"spandrel/api"
	"spandrel/parse"
	"spandrel/shape"
)

// typeWrap is a way to nest a type in another one, conWrap one to nest a
// constraint in another one, each with the texts ahead of it and behind it.
type typeWrap struct {
	ahead, behind string
	of            func(api.Type) api.Type
}
type conWrap struct {
	ahead, behind string
	of            func(api.Con) api.Con
}

// first is where the first type starts that is nested by a wrap.
func (w typeWrap) first() int {
	if at := strings.Index(w.ahead, "NULL"); at >= 0 {
		return at
	}
	return len(w.ahead)
}

func typeWraps() []typeWrap {
	return []typeWrap{
		{"SEQUENCE OF ", "", list},
		{"SEQUENCE (SIZE (1, ...)) OF ", "", func(x api.Type) api.Type { return wide(list(x), one(1)) }},
		{"SEQUENCE { a ", " }", func(x api.Type) api.Type { return seq(of("a", x)) }},
		{"SEQUENCE { a NULL, b ", " OPTIONAL, c NULL }", func(x api.Type) api.Type { return seq(of("a", null), optional("b", x), of("c", null)) }},
		{"SEQUENCE { ..., a ", " }", func(x api.Type) api.Type { return open(seq(), of("a", x)) }},
		{"SEQUENCE { a NULL, ..., b NULL, c ", " }", func(x api.Type) api.Type { return open(seq(of("a", null)), of("b", null), of("c", x)) }},
		{"CHOICE { a ", ", b NULL }", func(x api.Type) api.Type { return choice(of("a", x), of("b", null)) }},
		{"CHOICE { a NULL, ..., b ", " }", func(x api.Type) api.Type { return open(choice(of("a", null)), of("b", x)) }},
	}
}

// first is where the first constraint starts that is nested by a wrap.
func (w conWrap) first() int {
	return strings.Index(w.ahead, "(") + 1
}

// conWraps are ways to nest a constraint; in the first one it consists of a
// single side.
func conWraps() []conWrap {
	return []conWrap{
		{"(", ")", func(c api.Con) api.Con { return c }},
		{"(", ") | 1", func(c api.Con) api.Con { return union(c, one(1)) }},
		{"1 | 2 | (", ")", func(c api.Con) api.Con { return union(one(1), one(2), c) }},
		{"1 ^ (", ") ^ MIN..MAX", func(c api.Con) api.Con {
			return meet(one(1), c, api.Con{Op: api.Span, Low: true, High: true})
		}},
		{"(", ") EXCEPT 1", func(c api.Con) api.Con { return except(c, one(1)) }},
		{"(1) EXCEPT (", ")", func(c api.Con) api.Con { return except(one(1), c) }},
	}
}

// checkDeep holds what is read of a type's text, alone and in a module, against
// ErrDeep at an offset.
func checkDeep(t *testing.T, s string, at int) {
	t.Helper()
	modelType(t, s)
	checkError(t, parse.Type, s, at, api.ErrDeep)
	const ahead = "M DEFINITIONS ::= BEGIN A ::= NULL B ::= "
	m := ahead + s + " C ::= NULL END"
	modelModule(t, m)
	checkError(t, parse.Module, m, len(ahead)+at, api.ErrDeep)
}

// P9.1: types 40 deep and deeper, nested in each way and in all of them in turn.
func TestDeepTypes(t *testing.T) {
	for first := range len(typeWraps()) + 1 {
		ahead, behind, starts := "", "", []int{0}
		of := func(x api.Type) api.Type { return x }
		for n := 1; n <= 45; n++ {
			s := ahead + "NULL" + behind
			if n <= 40 {
				checkRead(t, s, of(null))
				if e := modelModule(t, "M DEFINITIONS ::= BEGIN A ::= "+s+" B ::= "+s+" END"); e != api.OK {
					t.Errorf("%q: %d", s, e)
				}
			} else {
				checkDeep(t, s, starts[40])
			}
			w := typeWraps()[n%len(typeWraps())]
			if first < len(typeWraps()) {
				w = typeWraps()[first]
			}
			outer := of
			starts = append(starts, len(ahead)+w.first())
			ahead, behind, of = ahead+w.ahead, w.behind+behind, func(x api.Type) api.Type { return outer(w.of(x)) }
		}
	}
}

// P9.1: each form of type where it is too deep, and where only what is in it is;
// and what is no type there.
func TestTooDeepTypes(t *testing.T) {
	for _, w := range typeWraps() {
		ahead, behind := strings.Repeat(w.ahead, 40), strings.Repeat(w.behind, 40)
		at := 39*len(w.ahead) + w.first()
		for _, s := range samples() {
			first := strings.Fields(s)[0]
			for _, cut := range []string{s + behind, s + behind + " }", s, first, first + " )", first + behind} {
				checkDeep(t, ahead+cut, at)
			}
			x, _, _ := parse.Type([]byte(s))
			want := api.ErrDeep
			if shape.Depth(x) == 1 {
				want = api.OK
			}
			if e := modelType(t, strings.Repeat(w.ahead, 39)+s+strings.Repeat(w.behind, 39)); e != want {
				t.Errorf("%q in %q: %d", s, w.ahead, e)
			}
		}
		if w.first() < len(w.ahead) {
			continue
		}
		checkWrong(t, ahead+"@")
		checkWrong(t, ahead+" -- NULL@")
		for _, s := range []string{"a", "5", "}", "OF", "\"NULL\"", "END", "...", "(", "STRING", "null", "DEFINITIONS"} {
			checkWrong(t, ahead+"@"+s+behind)
			checkWrong(t, ahead+"@"+s+" NULL"+behind)
		}
	}
}

// P9.1: constraints 40 deep and deeper, nested in each way and in all of them in
// turn, in each type that has one.
func TestDeepConstraints(t *testing.T) {
	for first := range len(conWraps()) + 1 {
		ahead, behind, starts := "", "", []int{0}
		of := func(c api.Con) api.Con { return c }
		for n := 1; n <= 45; n++ {
			for _, inner := range []struct {
				s string
				c api.Con
			}{{"5", one(5)}, {"MIN..5", fromMin(5)}, {"5..MAX", toMax(5)}, {"1 ^ 2", meet(one(1), one(2))}} {
				for _, x := range []struct {
					ahead, behind string
					t             api.Type
				}{
					{"INTEGER (", ")", num}, {"BIT STRING (SIZE (", "))", api.Type{Kind: api.Bits}}, {"IA5String (SIZE (", "))", text}, {"SEQUENCE (SIZE (", ")) OF T", list(ref("T"))},
				} {
					s, c := x.ahead+ahead+inner.s+behind+x.behind, of(inner.c)
					switch {
					case n > 40:
						checkDeep(t, s, len(x.ahead)+starts[40])
					case shape.Con(c):
						checkRead(t, s, bound(x.t, c))
						modelType(t, s)
					default:
						// The numbers are nested too deep, though no con is.
						checkWrong(t, s+"@")
					}
				}
			}
			w := conWraps()[n%len(conWraps())]
			if first < len(conWraps()) {
				w = conWraps()[first]
			}
			outer := of
			starts = append(starts, len(ahead)+w.first())
			ahead, behind, of = ahead+w.ahead, w.behind+behind, func(c api.Con) api.Con { return outer(w.of(c)) }
		}
	}
}

// P9.1, P8.1: numbers that are nested 40 deep are well-formed, those nested 41
// deep are not, which only the length of the text tells.
func TestDeepNumbers(t *testing.T) {
	for _, w := range conWraps()[1:] {
		for n := 37; n <= 39; n++ {
			ahead, behind := strings.Repeat(w.ahead, n), strings.Repeat(w.behind, n)
			if s := "INTEGER (" + ahead + "5" + behind + ")"; modelType(t, s) != api.OK {
				t.Errorf("%q", s)
			}
			two := "INTEGER (" + ahead + "5 | 6" + behind + ")"
			if n < 39 {
				if modelType(t, two) != api.OK {
					t.Errorf("%q", two)
				}
				continue
			}
			checkWrong(t, two+"@")
			checkWrong(t, "SEQUENCE { a "+two+", b NULL }@")
			checkWrong(t, "SEQUENCE { a "+two+", @}")
			checkWrongModule(t, "M DEFINITIONS ::= BEGIN A ::= "+two+" END @")
		}
	}
	// Parentheses that say nothing nest nothing in what is read.
	checkRead(t, "INTEGER ("+strings.Repeat("(", 39)+"1 | 2"+strings.Repeat(")", 39)+")", bound(num, union(one(1), one(2))))
	checkRead(t, "INTEGER ("+strings.Repeat("(", 39)+"1 | 2"+strings.Repeat(")", 39)+" | 3)", bound(num, union(union(one(1), one(2)), one(3))))
}

// P9.1: what starts no constraint where it would be too deep, and what is wrong
// elsewhere.
func TestTooDeepConstraints(t *testing.T) {
	for _, w := range conWraps() {
		ahead, behind := "INTEGER ("+strings.Repeat(w.ahead, 40), strings.Repeat(w.behind, 40)+")"
		at := len("INTEGER (") + 39*len(w.ahead) + w.first()
		for _, s := range []string{"5", "-5", "MIN..5", "0..MAX", "(5)", "5 | 6", "((((5))))", "5 |", "(", "MIN", "5)", "5 6"} {
			checkDeep(t, ahead+s+behind, at)
			checkDeep(t, ahead+s, at)
			// Each type has constraints that are not nested in any.
			types := strings.Repeat("SEQUENCE OF ", 39)
			checkDeep(t, types+ahead+s+behind, len(types)+at)
			checkDeep(t, "SEQUENCE OF "+types+ahead+s+behind, len("SEQUENCE OF "+types))
		}
		fits := "INTEGER (" + strings.Repeat(w.ahead, 39) + "5" + strings.Repeat(w.behind, 39) + ")"
		checkWrong(t, "SEQUENCE { a "+fits+", b "+fits+" @b NULL }")
		many := strings.Repeat("SEQUENCE OF ", 39) + fits
		if modelType(t, many) != api.OK || modelModule(t, "M DEFINITIONS ::= BEGIN A ::= "+many+" B ::= "+fits+" END") != api.OK {
			t.Errorf("%q", many)
		}
		if w.first() < len(w.ahead) {
			continue
		}
		checkWrong(t, ahead+"@")
		for _, s := range []string{")", "MAX", "|", "a", "A", "\"5\"", "...", ", ...", "SIZE (1)", "-"} {
			checkWrong(t, ahead+"@"+s+behind)
		}
	}
}

// P9.1: of several errors, the one that comes first is told; what is not
// well-formed is told when all is read.
func TestFirstError(t *testing.T) {
	alone := strings.Repeat("SEQUENCE OF ", 40) + "@NULL"
	inner := strings.Repeat("SEQUENCE OF ", 39) + "@NULL"
	con := "INTEGER (" + strings.Repeat("(", 40) + "@5" + strings.Repeat(")", 40) + ")"
	plain := strings.NewReplacer("@", "")
	for _, s := range []string{
		alone + " 5", con + " )", "SEQUENCE { a " + inner, "SEQUENCE { a " + con, "CHOICE { a " + con + ", B NULL }",
		"SEQUENCE { a " + inner + ", b " + plain.Replace(inner) + " }", "SEQUENCE { a " + con + ", b " + plain.Replace(inner) + " }", "SEQUENCE { a INTEGER (1), b " + inner + ", c " + plain.Replace(con) + " }",
		"CHOICE { a " + inner + " OPTIONAL, ... }", "CHOICE { a NULL OPTIONAL, b " + con + " }", `SEQUENCE { a IA5String (FROM ("ba")), b ` + inner + " }",
		"SEQUENCE { a ENUMERATED { " + words(257, "a", ", ") + " }, b " + con + "}", "INTEGER (1 | " + con[9:],
	} {
		s, at := marked(s)
		checkDeep(t, s, at)
	}
	for _, s := range []string{
		"SEQUENCE { @A NULL, b " + plain.Replace(alone) + " }", "SEQUENCE { a INTEGER (1@(2)), b " + plain.Replace(con) + " }", "INTEGER @INTEGER " + plain.Replace(alone), "INTEGER (1 | 2 @^ " + plain.Replace(con)[9:],
		plain.Replace(alone) + " @#", plain.Replace(con) + " @01",
	} {
		checkWrong(t, s)
		checkWrongModule(t, "M DEFINITIONS ::= BEGIN A ::= "+s+" END")
	}
}

// P1, P9.1: texts that are as deep as a text can be.
func TestFarDeeper(t *testing.T) {
	s := strings.Repeat("(", api.MaxText-9)
	checkError(t, parse.Type, "INTEGER ("+s, 9+40, api.ErrDeep)
	s = strings.Repeat("SEQUENCE OF ", api.MaxText/12)
	checkError(t, parse.Type, s, 40*12, api.ErrDeep)
	checkError(t, parse.Module, "M DEFINITIONS::=BEGIN A::="+s[:60000], 26+40*12, api.ErrDeep)
	s = strings.Repeat("CHOICE{a ", api.MaxText/9)
	checkError(t, parse.Type, s, 40*9, api.ErrDeep)
}
