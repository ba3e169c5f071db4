package table_test

import (
	"encoding/binary"
	"fmt"
	"math/rand"
	"slices"
	"strings"
	"testing"

	"spandrel/api"
	"spandrel/parse"
	"spandrel/scope"
	"spandrel/shape"
	"spandrel/table"
)

// maker makes entries, modules and tables by a choice of numbers below a bound.
// One time in as many as wrong says, something is as it is not to be.
type maker struct {
	below func(bound int) int
	wrong int
}

// pick is one of these, and isWrong tells whether something is to be wrong.
func pick[E any](m maker, l ...E) E { return l[m.below(len(l))] }
func (m maker) isWrong() bool       { return m.below(m.wrong) == m.wrong-1 }

// con is a constraint, which seldom lets nothing in.
func (m maker) con() api.Con {
	lo := m.below(5) - m.below(2)
	one := api.Con{Op: api.Span, Lo: lo, Hi: lo + m.below(5)}
	if m.isWrong() {
		one.Hi = -2
	}
	switch m.below(7) {
	case 0:
		return one
	case 1:
		return api.Con{Op: api.Span, Lo: lo, High: true}
	case 2:
		return api.Con{Op: api.Span, Low: true, Hi: lo + 2}
	case 3:
		return api.Con{Op: api.Union, L: []api.Con{one, {Op: api.Span, Lo: 12, Hi: 20}}}
	}
	return api.Con{}
}

// value is a default, of a Kind that has defaults in texts.
func (m maker) value() api.Value {
	if m.isWrong() {
		return api.Value{Kind: 9, Names: []string{"a"}, L: []api.Value{{}, m.value()}}
	}
	return pick(m, api.Value{Kind: api.Bool, N: 1}, api.Value{Kind: api.Int, N: 5}, api.Value{Kind: api.Enum, S: "b"}, api.Value{Kind: api.Str, S: "x y"})
}

// names are a few names, all of them different, unless one is wrong.
func (m maker) names(from []string, count int) []string {
	all := slices.Clone(from)
	var l []string
	for range min(count, len(all)) {
		at := m.below(len(all))
		l = append(l, all[at])
		if !m.isWrong() {
			all = slices.Delete(all, at, at+1)
		}
	}
	return l
}

// letters are the names of parts and items.
var letters = strings.Fields("a b c d e f g h")

// parts are parts of a Seq or a Choice with these names.
func (m maker) parts(kind int, names, refs []string, levels int) []api.Part {
	var l []api.Part
	for _, name := range names {
		p := api.Part{Name: name, T: m.typ(refs, levels)}
		if kind == api.Seq || m.isWrong() {
			switch m.below(4) {
			case 0:
				p.Opt = true
			case 1:
				p.Def = []api.Value{m.value()}
			}
			p.Opt = p.Opt || m.isWrong()
		}
		l = append(l, p)
	}
	return l
}

// typ is a type whose Refs have these names, with no more levels below it than
// these.
func (m maker) typ(refs []string, levels int) api.Type {
	kinds := []int{1, 2, 3, 4, 5, 6, 7, 11, 11, 11}
	if levels > 0 {
		kinds = append(kinds, 8, 8, 8, 9, 9, 10, 10, 10)
	}
	x := api.Type{Kind: pick(m, kinds...)}
	first, more := 1+m.below(3), m.below(3)
	ownNames := m.names(letters, first+more)
	first = min(first, len(ownNames))
	switch x.Kind {
	case api.Ref:
		x.Name = pick(m, refs...)
	case api.Int, api.Bits, api.Octets, api.Str, api.SeqOf:
		x.Con = m.con()
		x.Ext = x.Con.Op != api.All && m.below(3) == 0
	case api.Enum:
		x.Ext = more > 0 || m.below(3) == 0
		x.Names, x.More = ownNames[:first:first], ownNames[first:]
	case api.Seq, api.Choice:
		x.Ext = more > 0 || m.below(3) == 0
		x.Parts = m.parts(x.Kind, ownNames[:first], refs, levels-1)
		x.Adds = m.parts(x.Kind, ownNames[first:], refs, levels-1)
	}
	switch x.Kind {
	case api.Str:
		x.From = pick(m, "", "", "ab", "xyz")
	case api.SeqOf:
		x.Elem = []api.Type{m.typ(refs, levels-1)}
	}
	if m.isWrong() {
		m.spoil(&x, refs)
	}
	return x
}

// spoil lets something be wrong in a type.
func (m maker) spoil(x *api.Type, refs []string) {
	switch m.below(6) {
	case 0:
		x.Kind = pick(m, 0, 12, -1, 8, 9, 10, 11)
	case 1:
		x.Elem = append(x.Elem, m.typ(refs, 0))
	case 2:
		x.Parts = append(x.Parts, part("z", m.typ(refs, 0)))
	case 3:
		x.Adds = append(x.Adds, optional("y", m.typ(refs, 0)))
	case 4:
		x.Name, x.Ext, x.From, x.Names, x.More = "M.A", !x.Ext, "ba", []string{"a"}, []string{"a"}
	case 5:
		x.Name, x.Con = "M.Gone", m.con()
	}
}

// fullNames are the names of entries, and of Refs.
var fullNames = []string{"M.A", "M.B", "M.C", "M.D", "N.A", "N.B", "N.C"}

// entries are a few entries, which need not be resolved.
func (m maker) entries() []api.Entry {
	names := m.names(fullNames, 1+m.below(len(fullNames)))
	refs := names
	if m.isWrong() {
		refs = fullNames
	}
	var l []api.Entry
	for _, name := range names {
		l = append(l, entry(name, m.below(3) > 0, m.typ(refs, m.below(4))))
	}
	return l
}

// modules are two modules, which have few names in common.
func (m maker) modules() []api.Module {
	var l []api.Module
	for k, own := range [][]string{{"A", "B", "C"}, {"D", "E", "F"}} {
		x := api.Module{Name: string(rune('M' + k)), Auto: m.below(4) > 0}
		other := [][]string{{"D", "E", "F"}, {"A", "B", "C"}}[k]
		x.Imports = []api.Import{{Names: other, From: string(rune('N' - k))}}
		for _, name := range own {
			x.Defs = append(x.Defs, api.Def{Name: name, T: m.typ([]string{"A", "B", "C", "D", "E", "F"}, m.below(4))})
		}
		l = append(l, x)
	}
	return l
}

// holdResolved holds the tables of all names of modules that can be resolved, and
// P14.4 of them. It tells the errors, of which there are none if the modules
// cannot be resolved.
func holdResolved(t *testing.T, l []api.Module) []api.Errno {
	t.Helper()
	all, e := scope.Resolve(l)
	if e != api.OK {
		return nil
	}
	var errors []api.Errno
	for _, x := range all {
		d, e := holdLower(t, all, x.Module+"."+x.Name)
		errors = append(errors, e)
		if e == api.OK {
			holdRight(t, d)
		} else if e != api.ErrTag && e != api.ErrEmpty {
			t.Fatalf("%s.%s of %s: %d", x.Module, x.Name, shown(all), e)
		}
	}
	return errors
}

// P14.1 to P14.3: any entries.
func TestAny(t *testing.T) {
	from := rand.New(rand.NewSource(14))
	for _, wrong := range []int{10, 50, 300, 1000000} {
		m := maker{from.Intn, wrong}
		counts, rows, right := map[api.Errno]int{}, 0, map[bool]int{}
		for range 400 {
			l := m.entries()
			for _, name := range fullNames {
				d, e := holdLower(t, l, name)
				counts[e]++
				rows = max(rows, len(d))
				if e == api.OK {
					holdRight(t, d, broken(d)...)
					right[len(broken(d)) == 0]++
				}
			}
		}
		if counts[api.OK] < 200 || counts[api.ErrName] < 200 || counts[api.ErrDeep] < 200 || counts[api.ErrTag] < 200 || rows < 20 || right[true] < 100 {
			t.Error(wrong, counts, rows, right)
		}
		if wrong < 100 && (counts[api.ErrArg] < 5 || counts[api.ErrEmpty] < 5 || right[false] < 10) {
			t.Error(wrong, counts, rows, right)
		}
	}
}

// P14.4: any modules that can be resolved.
func TestAnyResolved(t *testing.T) {
	from := rand.New(rand.NewSource(15))
	for _, wrong := range []int{200, 1000000} {
		m := maker{from.Intn, wrong}
		counts := map[api.Errno]int{}
		for range 700 {
			for _, e := range holdResolved(t, m.modules()) {
				counts[e]++
			}
		}
		if counts[api.OK] < 300 || counts[api.ErrTag] < 100 || wrong < 1000 && counts[api.ErrEmpty] < 10 {
			t.Error(wrong, counts)
		}
	}
}

// P14.4: modules with all that a text may have, and with lists as long as they may
// be.
func TestResolved(t *testing.T) {
	read := func(texts ...string) []api.Module {
		var l []api.Module
		for _, text := range texts {
			m, at, e := parse.Module([]byte(text))
			if e != api.OK {
				t.Fatalf("%q: %d %d", text, at, e)
			}
			l = append(l, m)
		}
		return l
	}
	const m = `M DEFINITIONS ::= BEGIN IMPORTS A, B FROM N;
		C ::= CHOICE { a A, b B, c D, d BOOLEAN, ..., e INTEGER (0..7 | 9, ...) }
		D ::= SEQUENCE { a C OPTIONAL, b IA5String (FROM ("ab")) (SIZE (1..5)) DEFAULT "ab", c ENUMERATED { a, ..., b } DEFAULT b, ..., d A OPTIONAL, e NULL }
		E ::= SEQUENCE (SIZE (MIN..5, ...)) OF CHOICE { a BIT STRING (SIZE (8)), b OCTET STRING, c E }
	END`
	const n = "N DEFINITIONS AUTOMATIC TAGS ::= BEGIN IMPORTS D, E FROM M; A ::= CHOICE { a NULL, b D } B ::= NULL F ::= SEQUENCE { a E, b E, c A OPTIONAL, ..., d F } END"
	all, e := scope.Resolve(read(m, n))
	if e != api.OK {
		t.Fatal(e)
	}
	// D's a and d both have the tags of A.
	refused(t, all, "M.C", api.ErrTag)
	all, e = scope.Resolve(read(strings.Replace(m, "..., d A OPTIONAL", "d BIT STRING, ...", 1), n))
	if e != api.OK {
		t.Fatal(e)
	}
	lowered(t, all, "M.C", `Choice ext a:1 b:8 c:3 d:9 +e:10 <3 1 2 0>
		Choice a:2 b:3 <0 1>
		Null
		Seq ext a:0? b:4=7/0/ab c:5=3/0/b d:6 +e:7
		Str 1..5 [1 5] "ab"
		Enum ext a +b
		Bits 0..MAX [0 MAX]
		Null
		Null
		Bool
		Int ext 0..7 9..9 [0 9]`)
	lowered(t, all, "N.B", "Null")
	lowered(t, all, "M.E", "SeqOf ext 0..5 [0 5] of 1\nChoice a:2 b:3 c:0 <0 1 2>\nBits 8..8 [8 8]\nOctets 0..MAX [0 MAX]")
	var parts, items []string
	for k := range api.MaxNames {
		parts = append(parts, fmt.Sprintf("p%d NULL", k))
		items = append(items, fmt.Sprintf("i%d", k))
	}
	long := strings.Join(parts, ", ")
	more := strings.ReplaceAll(long, "p", "q")
	for text, rows := range map[string]int{
		"A ::= SEQUENCE { " + long + " }":                    257,
		"A ::= SEQUENCE { " + long + ", ..., " + more + " }": 513,
		"A ::= CHOICE { " + long + ", ..., " + more + " }":   513,
		"A ::= ENUMERATED { " + strings.Join(items, ", ") + ", ..., " + strings.ReplaceAll(strings.Join(items, ", "), "i", "j") + " }": 1,
		"A ::= SEQUENCE { a B, b C, c B } B ::= SEQUENCE { " + long + " } C ::= SEQUENCE OF B":                                         259,
	} {
		l := read("M DEFINITIONS AUTOMATIC TAGS ::= BEGIN " + text + " END")
		all, e := scope.Resolve(l)
		if e != api.OK {
			t.Fatal(e)
		}
		d, e := holdLower(t, all, "M.A")
		if e != api.OK || len(d) != rows {
			t.Errorf("%.100s: %d rows, %d", text, len(d), e)
		}
		holdRight(t, d)
	}
}

// P14.4: types as deep as they may be, whose sets are never empty.
func TestResolvedDeep(t *testing.T) {
	for kind := range kindNames {
		x := api.Type{Kind: kind}
		switch kind {
		case api.Enum:
			x.Names = []string{"a"}
		case api.Choice:
			x.Parts = []api.Part{part("a", api.Type{Kind: api.Null})}
		case api.SeqOf:
			x = seqOf(api.Type{Kind: api.Null})
		}
		for shape.Depth(x) < api.MaxDeep {
			if shape.Depth(x)%2 == 0 {
				x = seqOf(x)
			} else {
				x = api.Type{Kind: api.Seq, Ext: true, Adds: []api.Part{part("a", x)}}
			}
		}
		holdResolved(t, []api.Module{{Name: "M", Defs: []api.Def{{Name: "A", T: x}}}})
	}
}

// desc is a row of a table with so many rows.
func (m maker) desc(rows int) api.Desc {
	row := func() int {
		if m.isWrong() {
			return pick(m, -1, rows, rows+7)
		}
		return m.below(rows)
	}
	r := api.Desc{Kind: 1 + m.below(10)}
	r.Ext = r.Kind != api.Bool && r.Kind != api.Null && m.below(2) == 0
	kind := r.Kind
	if m.isWrong() {
		kind = m.below(12)
	}
	if slices.Contains(withSet, kind) {
		from := m.below(4)
		r = withEnds(r, pick(m, [][]int{{from, 9}, {from, from}, {from, 7, 9, 9}, {1, 9, from, 12}, {from, 7, 8, 9}, {-from, 5}}[:3+m.below(4)]...)...)
	}
	all := m.names(letters, 2+m.below(4))
	more := 0
	if r.Ext {
		more = m.below(3)
	}
	switch kind {
	case api.Str:
		r.From = pick(m, "", "ab", "az", "\x00\x7f")
	case api.Enum:
		r.Names, r.More = all[more:], all[:more]
	case api.SeqOf:
		r.Elem = row()
	case api.Seq, api.Choice:
		for k, name := range all {
			p := api.Field{Name: name, T: row(), Opt: kind == api.Seq && m.below(3) == 0 || m.isWrong()}
			if kind == api.Seq && !p.Opt && m.below(3) == 0 || m.isWrong() {
				p.Def = slices.Repeat([]api.Value{m.value()}, 1+m.below(2)*m.below(2)*m.below(2))
			}
			if k < more {
				r.Adds = append(r.Adds, p)
			} else {
				r.Parts = append(r.Parts, p)
			}
		}
	}
	if kind == api.Choice {
		r.Order = upwards(len(r.Parts))
		at := m.below(len(r.Parts) + 1)
		r.Order = append(r.Order[at:], r.Order[:at]...)
	}
	if m.isWrong() {
		m.spoilRow(&r)
	}
	return r
}

// spoilRow lets something be wrong in a row.
func (m maker) spoilRow(r *api.Desc) {
	switch m.below(9) {
	case 0:
		r.Kind = m.below(13) - 1
	case 1:
		r.Ext = !r.Ext
	case 2:
		r.Lo--
	case 3:
		r.Hi++
	case 4:
		r.From = pick(m, "", "a", "ba", "aa", "\xff")
	case 5:
		r.Names, r.More = r.More, r.Names
	case 6:
		r.Parts, r.Adds = r.Adds, r.Parts
	case 7:
		r.Order = append(r.Order, 0)
	case 8:
		r.Elem++
	}
}

// holdTable holds what Right answers for a table, and tells how many conditions it
// breaks.
func holdTable(t *testing.T, m maker) int {
	t.Helper()
	var d []api.Desc
	rows := 1 + m.below(4)
	for range rows {
		d = append(d, m.desc(rows))
	}
	holdRight(t, d, broken(d)...)
	return len(broken(d))
}

// P14.3: any tables.
func TestAnyTable(t *testing.T) {
	from := rand.New(rand.NewSource(16))
	for _, wrong := range []int{20, 100} {
		m := maker{from.Intn, wrong}
		counts := map[int]int{}
		for range 20000 {
			counts[holdTable(t, m)]++
		}
		if counts[0] < 1000 || counts[1] < 1000 || counts[2] < 100 {
			t.Error(wrong, counts)
		}
	}
}

// P14.1: entries with different names may stand in any order.
func TestAnyOrder(t *testing.T) {
	from := rand.New(rand.NewSource(17))
	m := maker{from.Intn, 1000000}
	for range 500 {
		l := m.entries()
		for _, name := range fullNames {
			before, e := table.Lower(l, name)
			from.Shuffle(len(l), func(i, j int) { l[i], l[j] = l[j], l[i] })
			if after, got := table.Lower(l, name); told(after) != told(before) || got != e {
				t.Fatalf("%s of %s: %d, not %d", name, shown(l), got, e)
			}
		}
	}
}

// FuzzTable: any entries, modules and tables.
func FuzzTable(f *testing.F) {
	from := rand.New(rand.NewSource(18))
	for range 100 {
		b := make([]byte, from.Intn(600))
		from.Read(b)
		f.Add(b, uint8(from.Intn(200)))
	}
	f.Fuzz(func(t *testing.T, b []byte, wrong uint8) {
		m := maker{func(bound int) int {
			if len(b) < 2 {
				return 0
			}
			n := int(binary.BigEndian.Uint16(b))
			b = b[2:]
			return n % bound
		}, 2 + int(wrong)}
		l := m.entries()
		for _, name := range fullNames {
			holdLower(t, l, name)
		}
		holdTable(t, m)
		holdResolved(t, m.modules())
	})
}
