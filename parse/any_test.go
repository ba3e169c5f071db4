package parse_test

import (
	"math"
	"math/rand"
	"reflect"
	"slices"
	"strconv"
	"strings"
	"testing"

	"spandrel/api"
	"spandrel/parse"
	"spandrel/shape"
)

// maker makes texts and types at random.
type maker struct{ *rand.Rand }

// pick is one of these.
func pick[T any](m maker, l ...T) T { return l[m.Intn(len(l))] }

// several is as many elements as are between the bounds.
func several[T any](m maker, least, most int, element func() T) []T {
	var l []T
	for range least + m.Intn(most-least+1) {
		l = append(l, element())
	}
	return l
}

func (m maker) number() int {
	return pick(m, 0, 1, -1, 7, 10, 256, -70000, math.MaxInt64, -math.MaxInt64)
}
func (m maker) lower() string { return pick(m, "a", "b", "c-1", "of", "true", "dE") }
func (m maker) upper() string { return pick(m, "A", "B", "C-1", "Of", "SET", "De") }

// derive is the words of a text by a rule of the grammar, with no more levels
// than these.
func (m maker) derive(symbol string, levels int) []string {
	switch symbol {
	case "N":
		return []string{strconv.Itoa(m.number())}
	case "up":
		return []string{m.upper()}
	case "low":
		return []string{m.lower()}
	case "txt":
		return []string{pick(m, `""`, `"a"`, `"ab"`, `"a""b"`, `" -~"`, `"""--"`, `"AZ"`, `"--"`)}
	case "type", "side":
		levels--
	}
	if rules[symbol] == nil {
		return []string{symbol}
	}
	chosen := pick(m, rules[symbol]...)
	for levels < 0 && (slices.Contains(chosen, "type") || slices.Contains(chosen, "parts") || slices.Contains(chosen, "con")) && (symbol == "type" || symbol == "side") {
		chosen = pick(m, rules[symbol]...)
	}
	var l []string
	for _, s := range chosen {
		l = append(l, m.derive(s, levels)...)
	}
	return l
}

// spaced is a text that consists of these words.
func (m maker) spaced(words []string) string {
	var s strings.Builder
	for _, word := range words {
		s.WriteString(word)
		s.WriteString(pick(m, " ", " ", "\n", "\t ", " --x--", " -- \"\n", "--a\r\n"))
	}
	return s.String()
}

// spoil changes a word at random, or several.
func (m maker) spoil(words []string) []string {
	words = slices.Clone(words)
	for range 1 + m.Intn(2) {
		k := m.Intn(len(words) + 1)
		word := pick(m, vocabulary()...)
		switch {
		case k == len(words) || m.Intn(4) == 0:
			words = slices.Insert(words, k, word)
		case m.Intn(3) == 0:
			words = slices.Delete(words, k, k+1)
		case m.Intn(3) == 0:
			other := m.Intn(len(words))
			words[k], words[other] = words[other], words[k]
		case m.Intn(4) == 0:
			words = words[:k]
		default:
			words[k] = word
		}
	}
	return words
}

// P9.1, P9.2: any texts of the grammar, and what is almost one.
func TestAnyText(t *testing.T) {
	m := maker{rand.New(rand.NewSource(1))}
	counts := map[api.Errno]int{}
	spoiled := map[api.Errno]int{}
	for range 6000 {
		words := m.derive("type", m.Intn(5))
		s := m.spaced(words)
		e := modelType(t, s)
		counts[e]++
		if _, at, _ := parse.Type([]byte(s)); at != len(s) {
			t.Errorf("%q: %d", s, at)
		}
		for range 3 {
			spoiled[modelType(t, m.spaced(m.spoil(words)))]++
		}
		module := m.derive("module", m.Intn(3))
		s = m.spaced(module)
		counts[modelModule(t, s)]++
		if _, at, _ := parse.Module([]byte(s)); at != len(s) {
			t.Errorf("%q: %d", s, at)
		}
		spoiled[modelModule(t, m.spaced(m.spoil(module)))]++
	}
	for _, l := range []map[api.Errno]int{counts, spoiled} {
		if len(l) != 2 || l[api.OK] < 1000 || l[api.ErrText] < 1000 {
			t.Error(counts, spoiled)
		}
	}
}

// con is a constraint with no more levels below it than these.
func (m maker) con(levels int) api.Con {
	if levels == 0 || m.Intn(2) == 0 {
		return pick(m, one(m.number()), span(m.number(), m.number()), fromMin(m.number()), toMax(m.number()), api.Con{Op: api.Span, Low: true, High: true})
	}
	inner := func() api.Con { return m.con(levels - 1) }
	return pick(m, union(several(m, 2, 4, inner)...), meet(several(m, 2, 4, inner)...), except(inner(), inner()))
}

// bounded is a type with a constraint, or without.
func (m maker) bounded(x api.Type) api.Type {
	switch m.Intn(3) {
	case 0:
		return bound(x, m.con(3))
	case 1:
		return wide(x, m.con(2))
	}
	return x
}

// typ is a well-formed type with no more levels below it than these.
func (m maker) typ(levels int) api.Type {
	kinds := []int{api.Bool, api.Int, api.Enum, api.Null, api.Bits, api.Octets, api.Str, api.Ref}
	if levels > 0 {
		kinds = append(kinds, api.Seq, api.SeqOf, api.Choice, api.Seq, api.SeqOf, api.Choice)
	}
	x := api.Type{Kind: pick(m, kinds...)}
	switch x.Kind {
	case api.Int, api.Bits, api.Octets:
		return m.bounded(x)
	case api.Str:
		x.From = pick(m, "", "a", "ab", " \"~", "(),-.", "0123456789")
		return m.bounded(x)
	case api.Ref:
		x.Name = m.upper()
	case api.Enum:
		x.Names, x.Ext = several(m, 1, 4, m.lower), m.Intn(2) == 0
		if x.Ext {
			x.More = several(m, 0, 3, m.lower)
		}
	case api.SeqOf:
		x.Elem = []api.Type{m.typ(levels - 1)}
		return m.bounded(x)
	case api.Seq, api.Choice:
		part := func() api.Part { return m.part(x.Kind == api.Seq, levels-1) }
		least := 0
		if x.Kind == api.Choice {
			least = 1
		}
		x.Parts, x.Ext = several(m, least, 3, part), m.Intn(2) == 0
		if x.Ext {
			x.Adds = several(m, 0, 3, part)
		}
	}
	return x
}

// part is a part of a sequence, or of a choice.
func (m maker) part(ofSequence bool, levels int) api.Part {
	p := of(m.lower(), m.typ(levels))
	if ofSequence && m.Intn(2) == 0 {
		p.Opt = m.Intn(2) == 0
		if !p.Opt {
			p.Def = []api.Value{pick(m,
				api.Value{Kind: api.Bool, N: m.Intn(2)}, api.Value{Kind: api.Int, N: m.number()}, api.Value{Kind: api.Enum, S: m.lower()},
				api.Value{Kind: api.Str, S: pick(m, "", "a", "\"", "--", "TRUE", "b a", "\"\"x\"")})}
		}
	}
	return p
}

// module is a well-formed module.
func (m maker) module() api.Module {
	imports := func() api.Import { return api.Import{Names: several(m, 1, 3, m.upper), From: m.upper()} }
	definition := func() api.Def { return api.Def{Name: m.upper(), T: m.typ(2)} }
	return api.Module{Name: m.upper(), Auto: m.Intn(2) == 0, Imports: several(m, 0, 3, imports), Defs: several(m, 0, 4, definition)}
}

// P9.2: what is well-formed is read from its text.
func TestWellFormed(t *testing.T) {
	m := maker{rand.New(rand.NewSource(2))}
	for range 20000 {
		x := m.typ(m.Intn(5))
		if s := shape.TypeText(x); s == "" {
			t.Fatalf("%+v", x)
		} else if len(s) <= api.MaxText {
			checkRead(t, s, x)
		}
		checkAgain(t, x, shape.Type, shape.TypeText, parse.Type)
		checkAgain(t, m.module(), shape.Module, shape.ModuleText, parse.Module)
	}
	// As deep, with as many elements, and as long as can be.
	deepest := bound(num, one(1))
	for range 39 {
		deepest.Con = except(one(-5), deepest.Con)
	}
	for range 39 {
		deepest = open(seq(), of("a", deepest))
	}
	names := strings.Fields(words(256, "a", " "))
	many, manyMore := enum(names...), enumMore(words(256, "a", " "), words(256, "b", " "))
	all, alternatives := open(seq()), open(choice())
	for _, name := range names {
		all.Parts, all.Adds = append(all.Parts, optional(name, null)), append(all.Adds, with(name, flag, api.Value{Kind: api.Bool}))
		alternatives.Parts, alternatives.Adds = append(alternatives.Parts, of(name, null)), append(alternatives.Adds, of(name, ref("T")))
	}
	longest := ref("A" + strings.Repeat("b", api.MaxText-1))
	for _, x := range []api.Type{deepest, many, manyMore, all, alternatives, longest, ref(longest.Name + "b")} {
		checkAgain(t, x, shape.Type, shape.TypeText, parse.Type)
		checkAgain(t, api.Module{Name: "M", Defs: []api.Def{{Name: "A", T: x}, {Name: "B", T: null}}}, shape.Module, shape.ModuleText, parse.Module)
	}
	checkRead(t, longest.Name, longest)
	checkError(t, parse.Type, longest.Name+"b", 0, api.ErrLarge)
	uppers := strings.Fields(words(256, "T", " "))
	full := api.Module{Name: "M", Auto: true}
	for _, name := range uppers {
		full.Imports, full.Defs = append(full.Imports, api.Import{Names: []string{name}, From: "N"}), append(full.Defs, api.Def{Name: name, T: ref(name)})
	}
	checkAgain(t, full, shape.Module, shape.ModuleText, parse.Module)
	full.Imports = []api.Import{{Names: uppers, From: "N"}, {Names: uppers, From: "O"}}
	checkAgain(t, full, shape.Module, shape.ModuleText, parse.Module)
}

// places are where the lists of a value stand, with all that they have room for.
func places(v reflect.Value) [][2]uintptr {
	var l [][2]uintptr
	switch v.Kind() {
	case reflect.Struct:
		for k := range v.NumField() {
			l = append(l, places(v.Field(k))...)
		}
	case reflect.Slice:
		if v.Cap() > 0 {
			l = append(l, [2]uintptr{v.Pointer(), v.Pointer() + uintptr(v.Cap())*v.Type().Elem().Size()})
		}
		for k := range v.Len() {
			l = append(l, places(v.Index(k))...)
		}
	}
	return l
}

// R1, R3: nothing is changed, no answer hangs on what was asked ahead of it or
// shares a list with another one, and none changes when the text does.
func TestKeepsNothing(t *testing.T) {
	for _, s := range modules() {
		b := []byte(s)
		first, at, e := parse.Module(b)
		if string(b) != s || at != len(s) || e != api.OK {
			t.Fatalf("%q is changed to %q", s, b)
		}
		before := own(first)
		for k := range b {
			b[k] = 'X'
		}
		for k := range s {
			parse.Module([]byte(s[:k]))
			parse.Type([]byte(s[k:]))
		}
		second, _, _ := parse.Module([]byte(s))
		if !equal(first, before) || !equal(second, before) {
			t.Errorf("%q: %+v %+v, not %+v", s, first, second, before)
		}
		l := append(places(reflect.ValueOf(first)), places(reflect.ValueOf(second))...)
		slices.SortFunc(l, func(a, b [2]uintptr) int { return int(a[0]) - int(b[0]) })
		for k := range l {
			if k > 0 && l[k][0] < l[k-1][1] {
				t.Errorf("%q: lists share what they store", s)
			}
		}
	}
	checkError(t, parse.Type, "", 0, api.ErrText)
	for _, b := range [][]byte{nil, {}} {
		if x, at, e := parse.Type(b); at != 0 || e != api.ErrText || !equal(x, api.Type{}) {
			t.Error(x, at, e)
		}
		if x, at, e := parse.Module(b); at != 0 || e != api.ErrText || !equal(x, api.Module{}) {
			t.Error(x, at, e)
		}
	}
}

// P9.1: the chapter's examples.
func TestExamples(t *testing.T) {
	checkRead(t, "INTEGER (0..7 | 9, ...)", wide(num, union(span(0, 7), one(9))))
	checkError(t, parse.Type, "INTEGER ()", 9, api.ErrText)
	checkRead(t, "INTEGER ((1..2))", bound(num, span(1, 2)))
	checkRead(t, "INTEGER ((1..2) | 3)", bound(num, union(span(1, 2), one(3))))
	checkError(t, parse.Type, "INTEGER (1 | 2 ^ 3)", 15, api.ErrText)
}

// FuzzText holds Type and Module against the model, for any text.
func FuzzText(f *testing.F) {
	for _, s := range append(samples(), modules()...) {
		f.Add(s)
		f.Add(strings.ReplaceAll(s, " ", "\n"))
	}
	f.Add("INTEGER (" + strings.Repeat("(", 40) + "5")
	f.Add(strings.Repeat("SEQUENCE OF ", 40) + "NULL")
	f.Fuzz(func(t *testing.T, s string) {
		modelType(t, s)
		modelModule(t, s)
		modelModule(t, "M DEFINITIONS ::= BEGIN A ::= "+s+" END")
	})
}
