package tags_test

import (
	"encoding/binary"
	"math/rand"
	"slices"
	"strings"
	"testing"

	"spandrel/api"
	"spandrel/parse"
	"spandrel/scope"
	"spandrel/tags"
)

// maker makes entries by a choice of numbers below a bound. One time in as many
// as wrong says, something is as it is not to be.
type maker struct {
	below func(bound int) int
	wrong int
}

// pick is one of these.
func pick[E any](m maker, l []E) E { return l[m.below(len(l))] }

// fullNames are the names of entries, and of Refs.
var fullNames = []string{"M.A", "M.B", "M.C", "M.D", "N.A", "N.B", "N.C", "N.D"}

// parts are a few parts, of which few have the same universal tag.
func (m maker) parts(count, levels int) []api.Part {
	var l []api.Part
	kinds := []int{1, 2, 3, 4, 5, 6, 7, 8, 9, 10, 10, 10, 11, 11, 11, 11}
	for range count {
		at := m.below(len(kinds))
		p := api.Part{Name: "a", T: m.typ(kinds[at], levels)}
		if m.below(m.wrong) > 0 {
			kinds = slices.Delete(kinds, at, at+1)
		}
		switch m.below(5) {
		case 0:
			p.Opt = true
		case 1:
			p.Def = []api.Value{{Kind: api.Int}}
		case 2:
			p.Opt = m.below(m.wrong) == 0
			p.Def = make([]api.Value, m.below(3))
		}
		l = append(l, p)
	}
	return l
}

// typ is a type of a Kind, with no more levels below it than these.
func (m maker) typ(kind, levels int) api.Type {
	x := api.Type{Kind: kind}
	isWrong := m.below(m.wrong) == 0
	if isWrong {
		x.Kind = pick(m, []int{0, 12, -1, kind})
	}
	if kind == api.Ref {
		x.Name = pick(m, fullNames)
	}
	if levels == 0 {
		return x
	}
	if kind == api.Seq || kind == api.Choice || isWrong {
		x.Parts = m.parts(m.below(4), levels-1)
		x.Adds = m.parts(m.below(3), levels-1)
	}
	if kind == api.SeqOf || isWrong {
		x.Elem = []api.Type{m.typ(1+m.below(11), levels-1)}
	}
	return x
}

// entries are a few entries, some of whose names may be the same, or missing.
func (m maker) entries() []api.Entry {
	var l []api.Entry
	for k := range m.below(len(fullNames) + 1) {
		name := fullNames[k]
		if m.below(m.wrong) == 0 {
			name = pick(m, fullNames)
		}
		module, own, _ := strings.Cut(name, ".")
		kind := pick(m, []int{8, 8, 9, 10, 10, 10, 11, 1 + m.below(11)})
		l = append(l, api.Entry{Module: module, Name: own, Auto: m.below(3) == 0, T: m.typ(kind, m.below(4))})
	}
	return l
}

// holdAll holds what the three functions answer for entries, and for their types,
// against the model.
func holdAll(t *testing.T, l []api.Entry) api.Errno {
	t.Helper()
	e := modelCheck(l)
	holdCheck(t, l, e)
	for _, x := range l {
		for _, auto := range []bool{false, true} {
			holdOf(t, l, auto, x.T, modelOf(l, auto, x.T))
			holdOrder(t, l, auto, x.T, modelOrder(l, auto, x.T))
		}
	}
	for _, name := range fullNames {
		var want []int
		if place := scope.Find(l, name); place >= 0 {
			want = tags.Of(l, l[place].Auto, l[place].T)
		}
		holdOf(t, l, false, ref(name), want)
	}
	return e
}

// P13.1 to P13.3: any entries.
func TestAny(t *testing.T) {
	from := rand.New(rand.NewSource(13))
	for _, wrong := range []int{3, 20, 1000000} {
		m := maker{from.Intn, wrong}
		counts := map[api.Errno]int{}
		for range 500 {
			counts[holdAny(t, m)]++
		}
		if len(counts) != 2 || counts[api.OK] < 50 || counts[api.ErrTag] < 50 {
			t.Error(wrong, counts)
		}
	}
}

// holdAny is holdAll for entries at random.
func holdAny(t *testing.T, m maker) api.Errno {
	t.Helper()
	return holdAll(t, m.entries())
}

// P13.4: any entries all of which have Auto.
func TestAllAuto(t *testing.T) {
	from := rand.New(rand.NewSource(14))
	for _, wrong := range []int{3, 1000000} {
		m := maker{from.Intn, wrong}
		for range 300 {
			l := withAuto(m.entries(), true)
			holdCheck(t, l, api.OK)
			for _, e := range l {
				holdInOrder(t, l, e.T)
			}
		}
	}
}

// holdInOrder holds that the parts of a type, and of those in it, stay in their
// order.
func holdInOrder(t *testing.T, l []api.Entry, x api.Type) {
	t.Helper()
	got := tags.Order(l, true, x)
	if len(got) != len(x.Parts) {
		t.Fatalf("%s\nof %s: %v", shown(x), shown(l), got)
	}
	for k, part := range got {
		if part != k {
			t.Fatalf("%s\nof %s: %v", shown(x), shown(l), got)
		}
	}
	for _, p := range allParts(x) {
		holdInOrder(t, l, p.T)
	}
	for _, e := range x.Elem {
		holdInOrder(t, l, e)
	}
}

// P13.1 to P13.4: entries that package scope makes of modules.
func TestResolved(t *testing.T) {
	read := func(texts ...string) []api.Entry {
		var l []api.Module
		for _, text := range texts {
			m, at, e := parse.Module([]byte(text))
			if e != api.OK {
				t.Fatalf("%q: %d %d", text, at, e)
			}
			l = append(l, m)
		}
		all, e := scope.Resolve(l)
		if e != api.OK {
			t.Fatalf("%q: %d", texts, e)
		}
		return all
	}
	const m = "M DEFINITIONS ::= BEGIN IMPORTS A, B FROM N; C ::= CHOICE { a A, b B, c D, d BOOLEAN } D ::= SEQUENCE { a C OPTIONAL, b A } END"
	const n = "N DEFINITIONS AUTOMATIC TAGS ::= BEGIN A ::= CHOICE { a NULL, b NULL } B ::= NULL END"
	const other = "N DEFINITIONS ::= BEGIN A ::= CHOICE { a NULL, b IA5String } B ::= NULL END"
	l := read(m, n)
	// C has the tags of A, so that the parts of D are not distinguishable.
	holdCheck(t, l, api.ErrTag)
	holdOf(t, l, false, l[0].T, []int{1, 5, 16, 1000, 1001})
	holdOrder(t, l, false, l[0].T, []int{3, 1, 2, 0})
	l = read(strings.Replace(m, "a C OPTIONAL", "a C", 1), n)
	holdCheck(t, l, api.OK)
	l = read(strings.Replace(m, "a C OPTIONAL", "a C", 1), other)
	// A and B both have the tag of NULL.
	holdCheck(t, l, api.ErrTag)
	holdOf(t, l, false, l[0].T, []int{1, 5, 16, 22})
	holdOrder(t, l, false, l[0].T, []int{3, 0, 1, 2})
	l = read(strings.Replace(m, "::=", "AUTOMATIC TAGS ::=", 1), other)
	holdCheck(t, l, api.OK)
	holdOf(t, l, true, l[0].T, []int{1000, 1001, 1002, 1003})
	holdOrder(t, l, true, l[0].T, []int{0, 1, 2, 3})
}

// P13.1, P13.2: the order of entries that all have different names.
func TestAnyOrder(t *testing.T) {
	from := rand.New(rand.NewSource(15))
	m := maker{from.Intn, 1000000}
	for range 500 {
		l := m.entries()
		want, check := map[string][]int{}, tags.Check(l)
		for _, name := range fullNames {
			want[name] = tags.Of(l, false, ref(name))
		}
		from.Shuffle(len(l), func(i, j int) { l[i], l[j] = l[j], l[i] })
		if got := tags.Check(l); got != check {
			t.Fatalf("%s: %d, not %d", shown(l), got, check)
		}
		for _, name := range fullNames {
			if got := tags.Of(l, true, ref(name)); !slices.Equal(got, want[name]) {
				t.Fatalf("%s: %v, not %v", shown(l), got, want[name])
			}
		}
	}
}

// FuzzTags: any entries.
func FuzzTags(f *testing.F) {
	from := rand.New(rand.NewSource(16))
	for range 50 {
		b := make([]byte, from.Intn(300))
		from.Read(b)
		f.Add(b)
	}
	f.Fuzz(func(t *testing.T, b []byte) {
		m := maker{func(bound int) int {
			if len(b) < 2 {
				return 0
			}
			n := int(binary.BigEndian.Uint16(b))
			b = b[2:]
			return n % bound
		}, 12}
		holdAny(t, m)
	})
}
