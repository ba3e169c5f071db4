package scope_test

import (
	"fmt"
	"math/rand"
	"slices"
	"strings"
	"testing"

	"spandrel/api"
	"spandrel/parse"
	"spandrel/scope"
)

// holdAny holds what Resolve answers for modules against the model, and against
// P10.3 in several orders, and tells the error.
func holdAny(t *testing.T, l []api.Module) api.Errno {
	t.Helper()
	all, e := modelResolve(l)
	for _, order := range orders(l) {
		hold(t, order, inOrder(order, all), e)
	}
	return e
}

// read are the modules of texts, unless one of them is none.
func read(texts []string) ([]api.Module, bool) {
	var l []api.Module
	for _, text := range texts {
		m, _, e := parse.Module([]byte(text))
		if e != api.OK {
			return nil, false
		}
		l = append(l, m)
	}
	return l, true
}

// P10.1: each word of some modules without it, with each of these words in its
// place, and with each of these words ahead of it.
func TestEachWord(t *testing.T) {
	texts := []string{
		"M DEFINITIONS ::= BEGIN IMPORTS B , C FROM N D FROM O ; A ::= SEQUENCE { a A OPTIONAL , b B , ... , c C } E ::= CHOICE { a E , b ENUMERATED { a , b , ... , c } , ... , d D } END",
		"N DEFINITIONS AUTOMATIC TAGS ::= BEGIN IMPORTS A FROM M ; B ::= SEQUENCE ( SIZE ( 1 .. 5 ) ) OF C C ::= CHOICE { a A , b D } D ::= NULL END",
		"O DEFINITIONS ::= BEGIN IMPORTS C FROM N E FROM M ; D ::= BOOLEAN A ::= SEQUENCE { a SEQUENCE OF A , b CHOICE { a E , b D } , c D DEFAULT c } END",
	}
	if l, ok := read(texts); !ok || holdAny(t, l) != api.OK {
		t.Fatal(texts)
	}
	counts := map[api.Errno]int{}
	for k, text := range texts {
		words := strings.Fields(text)
		for at := range words {
			for _, word := range strings.Fields("A B C D E F M N O a b c d ... , ; OPTIONAL NULL END") {
				for _, changed := range [][]string{{}, {word}, {word, words[at]}, {words[at], ",", word}, {words[at], word, "NULL", ","}} {
					spoiled := slices.Clone(texts)
					spoiled[k] = strings.Join(slices.Concat(words[:at], changed, words[at+1:]), " ")
					if l, ok := read(spoiled); ok {
						counts[holdAny(t, l)]++
					}
				}
			}
		}
	}
	if len(counts) != 3 || counts[api.OK] < 100 || counts[api.ErrName] < 100 || counts[api.ErrDeep] < 10 {
		t.Error(counts)
	}
}

// maker makes modules and entries by a choice of numbers below a bound. One time
// in as many as wrong says, it lets a name be any.
type maker struct {
	below func(bound int) int
	wrong int
}

// pick is one of these.
func pick[T any](m maker, l ...T) T { return l[m.below(len(l))] }

// names are as many names of a list, most of the time different ones.
func (m maker) names(from string, n int) []string {
	all := strings.Fields(from)
	var l []string
	for range n {
		k := m.below(len(all))
		l = append(l, all[k])
		if m.below(m.wrong) > 0 {
			all = slices.Delete(all, k, k+1)
		}
	}
	return l
}

// con is a constraint on how many elements there are.
func (m maker) con() api.Con {
	end := func() int { return m.below(5) - 2 }
	return pick(m, api.Con{}, api.Con{Op: 1, Lo: end(), Hi: end()}, api.Con{Op: 1, Lo: 1, Hi: 1}, api.Con{Op: 1, Low: true, Hi: end()}, api.Con{Op: 1, Lo: end(), High: true}, api.Con{Op: 1, Low: true, High: true}, api.Con{Op: 2, L: []api.Con{{Op: 1}, {Op: 1}}})
}

// parts are some parts, of a sequence or of a choice.
func (m maker) parts(names []string, ofSeq bool, refs []string, levels int) []api.Part {
	var l []api.Part
	for _, name := range names {
		p := api.Part{Name: name, T: m.typ(refs, levels)}
		if ofSeq {
			switch m.below(4) {
			case 0:
				p.Opt = true
			case 1:
				p.Def = []api.Value{{Kind: api.Int, N: m.below(100)}}
			}
		}
		l = append(l, p)
	}
	return l
}

// typ is a type whose Refs have these names, with no more levels below it than
// these.
func (m maker) typ(refs []string, levels int) api.Type {
	kinds := []int{api.Ref, api.Ref, api.Ref, api.Null, api.Enum}
	if levels > 0 {
		kinds = append(kinds, api.Seq, api.Seq, api.SeqOf, api.SeqOf, api.Choice, api.Choice)
	}
	x := api.Type{Kind: pick(m, kinds...)}
	switch x.Kind {
	case api.Ref:
		x.Name = pick(m, refs...)
	case api.Enum:
		first, more := 1+m.below(2), m.below(3)
		names := m.names("a b c d e f", first+more)
		x.Names, x.Ext, x.More = names[:first:first], more > 0, names[first:]
	case api.SeqOf:
		x.Con, x.Elem = m.con(), []api.Type{m.typ(refs, levels-1)}
	case api.Seq, api.Choice:
		first, more := 1+m.below(2), m.below(3)
		names := m.names("a b c d e f", first+more)
		ofSeq := x.Kind == api.Seq
		x.Parts, x.Ext = m.parts(names[:first], ofSeq, refs, levels-1), more > 0
		x.Adds = m.parts(names[first:], ofSeq, refs, levels-1)
	}
	return x
}

// modules are some modules, whose names denote types most of the time.
func (m maker) modules() []api.Module {
	var l []api.Module
	for _, name := range m.names("L M N O", 1+m.below(3)) {
		x := api.Module{Name: name, Auto: m.below(2) > 0}
		for _, own := range m.names("A B C D", 1+m.below(3)) {
			x.Defs = append(x.Defs, api.Def{Name: own})
		}
		l = append(l, x)
	}
	for k := range l {
		m.fill(l, &l[k])
	}
	return l
}

// fill gives a module among others its imports and its types.
func (m maker) fill(l []api.Module, x *api.Module) {
	names := own(*x)
	for range m.below(3) {
		from := pick(m, l...)
		free := slices.DeleteFunc(own(from), func(s string) bool { return slices.Contains(names, s) })
		if m.below(m.wrong) == 0 {
			free = strings.Fields("A B C D E")
		}
		if len(free) > 0 {
			some := m.names(strings.Join(free, " "), 1+m.below(len(free)))
			names = append(names, some...)
			x.Imports = append(x.Imports, api.Import{Names: some, From: from.Name})
		}
	}
	if m.below(m.wrong) == 0 {
		names = append(names, "A", "E")
	}
	for k := range x.Defs {
		x.Defs[k].T = m.typ(names, m.below(4))
	}
}

// entries are entries that Resolve need not have made.
func (m maker) entries() []api.Entry {
	full := m.names("M.A M.B M.C N.A N.B N.C", 1+m.below(5))
	refs := full
	if m.below(m.wrong) == 0 {
		refs = append(slices.Clone(full), "M.D", "N.A", ".", "")
	}
	var l []api.Entry
	for _, name := range full {
		x := m.typ(refs, m.below(4))
		if m.below(m.wrong) == 0 {
			x.Kind = m.below(13)
		}
		if m.below(m.wrong) == 0 {
			x.Elem = append(x.Elem, m.typ(refs, 1))
		}
		module, own, _ := strings.Cut(name, ".")
		l = append(l, entry(module, own, x))
	}
	return l
}

// holdEntries holds Find and Finite against the model, and tells what Finite
// answers.
func holdEntries(t *testing.T, l []api.Entry) bool {
	t.Helper()
	want := modelFinite(l)
	checkFinite(t, l, want)
	for _, name := range []string{"M.A", "M.B", "M.C", "N.A", "N.B", "N.C", "M.D", ""} {
		checkFind(t, l, name, modelFind(l, name))
	}
	return want
}

// P10.1 to P10.3: any modules, and any entries.
func TestAny(t *testing.T) {
	from := rand.New(rand.NewSource(10))
	for _, wrong := range []int{4, 20, 1000000} {
		m := maker{from.Intn, wrong}
		counts, finite := map[api.Errno]int{}, map[bool]int{}
		for range 1500 {
			counts[holdAny(t, m.modules())]++
			finite[holdEntries(t, m.entries())]++
		}
		if counts[api.OK] < 50 || counts[api.ErrDeep] < 50 || wrong < 100 && counts[api.ErrName] < 50 || finite[true] < 50 || finite[false] < 50 {
			t.Error(wrong, counts, finite)
		}
	}
}

// P10.3: as the modules are permuted, so are the entries.
func TestPermuted(t *testing.T) {
	from := rand.New(rand.NewSource(11))
	text := "M: IMPORTS B FROM N C FROM O; A ::= B D ::= SEQUENCE { c C }\nN auto: IMPORTS C FROM O; B ::= C A ::= SEQUENCE OF A\nO: C ::= NULL A ::= BOOLEAN\nP:\nQ: IMPORTS A FROM M B FROM N; C ::= CHOICE { a A, b B }"
	l := modules(t, text)
	all, e := scope.Resolve(l)
	if e != api.OK || len(all) != 7 {
		t.Fatal(shown(all), e)
	}
	for range 200 {
		from.Shuffle(len(l), func(i, j int) { l[i], l[j] = l[j], l[i] })
		hold(t, l, inOrder(l, all), api.OK)
	}
}

// R4, P1: nothing is kept from one call for another, whatever it answers.
func TestNothingKept(t *testing.T) {
	calls := []struct {
		text string
		want string
		e    api.Errno
	}{
		{"M: A ::= B B ::= NULL", "M.A ::= M.B\nM.B ::= NULL", api.OK},
		{"M: A ::= B", "", api.ErrName},
		{"N: B ::= NULL", "N.B ::= NULL", api.OK},
		{"M: IMPORTS B FROM N; A ::= B", "", api.ErrName},
		{"M: A ::= A B ::= NULL", "", api.ErrDeep},
		{"M: B ::= ENUMERATED { a, a } A ::= B", "", api.ErrName},
	}
	for first := range calls {
		for second := range calls {
			for _, k := range []int{first, second, first} {
				hold(t, modules(t, calls[k].text), entries(t, calls[k].want), calls[k].e)
			}
		}
	}
}

// FuzzScope: any modules, and any entries.
func FuzzScope(f *testing.F) {
	from := rand.New(rand.NewSource(12))
	for range 50 {
		b := make([]byte, from.Intn(300))
		from.Read(b)
		f.Add(b, uint8(from.Intn(100)))
	}
	f.Fuzz(func(t *testing.T, b []byte, wrong uint8) {
		m := maker{func(bound int) int {
			if len(b) == 0 {
				return 0
			}
			n := int(b[0]) % bound
			b = b[1:]
			return n
		}, 1 + int(wrong)}
		l := m.modules()
		holdAny(t, l)
		// A module that is there twice, or has any name, is no less held.
		l = append(l, l[0])
		holdAny(t, l)
		l[0].Name = fmt.Sprintf("%s%q", l[0].Name, b)
		holdAny(t, l)
		holdEntries(t, m.entries())
	})
}
