package shape_test

import (
	"math/rand"
	"reflect"
	"slices"
	"strings"
	"testing"

	"spandrel/api"
	"spandrel/shape"
	"spandrel/token"
)

// maker makes types out of numbers, which next gives, each below the bound that
// it is given.
type maker struct {
	next func(bound int) int
	// wrong is how often what is made is not as it must be: in one of so many
	// cases, or in none if it is 0.
	wrong int
}

// is tells whether something is wrong here.
func (m maker) is() bool {
	return m.wrong > 0 && m.next(m.wrong) == 0
}

// pick is one of these.
func pick[T any](m maker, l ...T) T { return l[m.next(len(l))] }

// list is as many elements as are between the bounds.
func list[T any](m maker, least, most int, element func() T) []T {
	var l []T
	for range least + m.next(most-least+1) {
		l = append(l, element())
	}
	return l
}

func (m maker) number() int { return pick(m, 0, 1, -1, 2, 10, 256, -70000) }

func (m maker) lower() string {
	if m.is() {
		return pick(m, "", "A", "a-", "5", "a b")
	}
	return pick(m, "a", "b", "c-1", "of")
}

func (m maker) upper() string {
	if m.is() {
		return pick(m, "", "a", "A-", "OF", "NULL", "A b")
	}
	return pick(m, "A", "B", "C-1", "Of")
}

func (m maker) text() string {
	if m.is() {
		return pick(m, "\x1f", "a\x7f", "é")
	}
	return pick(m, "", "a", "\"", "--", "b a")
}

// con is a constraint that is not All, with no more levels below it than these.
func (m maker) con(levels int) api.Con {
	if m.is() {
		return pick(m, api.Con{}, api.Con{Op: api.Span, Low: true, Lo: 1}, api.Con{Op: 5}, except(one(1)), api.Con{Lo: 1})
	}
	if levels == 0 || m.next(2) == 0 {
		c := api.Con{Op: api.Span, Low: m.next(4) == 0, High: m.next(4) == 0}
		if !c.Low {
			c.Lo = m.number()
		}
		if !c.High {
			c.Hi = m.number()
		}
		if m.next(3) == 0 && !c.Low && !c.High {
			c.Hi = c.Lo
		}
		return c
	}
	op := pick(m, api.Union, api.Meet, api.Except)
	most := 3
	if op == api.Except {
		most = 2
	}
	return api.Con{Op: op, L: list(m, 2, most, func() api.Con { return m.con(levels - 1) })}
}

// bound gives a type a constraint, or does not.
func (m maker) bound(x *api.Type) {
	if m.next(2) == 0 {
		x.Con, x.Ext = m.con(2), m.next(2) == 0
	}
}

// typ is a type with no more levels below it than these.
func (m maker) typ(levels int) api.Type {
	kinds := []int{api.Bool, api.Int, api.Enum, api.Null, api.Bits, api.Octets, api.Str, api.Ref}
	if levels > 0 {
		kinds = append(kinds, api.Seq, api.SeqOf, api.Choice, api.Seq, api.Choice)
	}
	x := api.Type{Kind: pick(m, kinds...)}
	switch x.Kind {
	case api.Int, api.Bits, api.Octets:
		m.bound(&x)
	case api.Str:
		m.bound(&x)
		x.From = pick(m, "", "a", "ab", " \"~")
	case api.Enum:
		x.Names, x.Ext = list(m, 1, 3, m.lower), m.next(2) == 0
		if x.Ext {
			x.More = list(m, 0, 2, m.lower)
		}
	case api.Seq, api.Choice:
		part := func() api.Part { return m.part(x.Kind, levels-1) }
		least := 0
		if x.Kind == api.Choice {
			least = 1
		}
		x.Parts, x.Ext = list(m, least, 3, part), m.next(2) == 0
		if x.Ext {
			x.Adds = list(m, 0, 2, part)
		}
	case api.SeqOf:
		m.bound(&x)
		x.Elem = []api.Type{m.typ(levels - 1)}
	case api.Ref:
		x.Name = m.upper()
	}
	if m.is() {
		m.spoil(&x)
	}
	return x
}

// spoil sets a field to that of another type.
func (m maker) spoil(x *api.Type) {
	other := pick(m, samples()...)
	k := m.next(reflect.TypeOf(other).NumField())
	reflect.ValueOf(x).Elem().Field(k).Set(reflect.ValueOf(other).Field(k))
}

// part is a part of a sequence or of a choice.
func (m maker) part(kind, levels int) api.Part {
	p := of(m.lower(), m.typ(levels))
	if kind == api.Choice && !m.is() {
		return p
	}
	switch m.next(3) {
	case 0:
		p.Opt = true
	case 1:
		p.Def = []api.Value{pick(m,
			api.Value{Kind: api.Bool, N: m.next(2)}, api.Value{Kind: api.Int, N: m.number()},
			api.Value{Kind: api.Enum, S: m.lower()}, api.Value{Kind: api.Str, S: m.text()})}
	}
	return p
}

// module is a module.
func (m maker) module() api.Module {
	imports := func() api.Import { return api.Import{Names: list(m, 1, 3, m.upper), From: m.upper()} }
	definition := func() api.Def { return api.Def{Name: m.upper(), T: m.typ(2)} }
	return api.Module{Name: m.upper(), Auto: m.next(2) == 0, Imports: list(m, 0, 2, imports), Defs: list(m, 0, 3, definition)}
}

// P8.1 to P8.5: any types and modules, most of them well-formed, held against
// the model and against each other.
func TestAny(t *testing.T) {
	from := rand.New(rand.NewSource(8))
	texts := map[string]api.Type{}
	for _, wrong := range []int{0, 0, 100, 10} {
		m := maker{from.Intn, wrong}
		for range 20000 {
			x := m.typ(3)
			if well := modelType(t, x); !well && wrong == 0 {
				t.Fatalf("%+v: not well-formed", x)
			} else if text := shape.TypeText(x); well {
				if y, ok := texts[text]; ok {
					checkSame(t, x, y, true)
				}
				texts[text] = x
			}
			y := m.typ(1)
			checkSame(t, x, y, equal(x, y))
			modelCon(t, x.Con)
			modelModule(t, m.module())
		}
	}
	if len(texts) < 10000 {
		t.Errorf("only %d texts", len(texts))
	}
}

// P8.5: the tokens of a type's text are the words, the integers, the signs and
// the quoted strings that it is written with.
func TestTokens(t *testing.T) {
	x := samples()[9]
	tokens, n, e := token.Scan([]byte(shape.TypeText(x)))
	if e != api.OK || n != len(shape.TypeText(x)) {
		t.Fatal(n, e)
	}
	var texts []string
	for _, k := range tokens {
		texts = append(texts, k.Text)
	}
	const want = `SEQUENCE { a BOOLEAN OPTIONAL , b IA5String ( FROM ( ab ) ) ( SIZE (  ..  , ... ) ) DEFAULT a" , c NULL , ... , d T DEFAULT a , e INTEGER (  ) DEFAULT  }`
	if !slices.Equal(texts, strings.Split(want, " ")) {
		t.Errorf("%q", texts)
	}
	// The type that each of these starts with is told by its first tokens.
	for _, x := range samples() {
		text := shape.TypeText(x)
		tokens, _, e := token.Scan([]byte(text))
		if e != api.OK || len(tokens) == 0 || tokens[0].At != 0 || tokens[0].Text != strings.Fields(text)[0] {
			t.Errorf("%q: %v %v", text, tokens, e)
		}
	}
}

// P1, R3: nothing is changed, no answer hangs on what was asked ahead of it, and
// none changes when its argument does.
func TestKeepsNothing(t *testing.T) {
	for _, x := range samples() {
		// The samples share some lists, which are spoiled below.
		x = clone(x)
		m := api.Module{Name: "M", Auto: true, Imports: []api.Import{{Names: []string{"A", "B"}, From: "N"}}, Defs: []api.Def{{Name: "T", T: x}}}
		before := clone(m)
		con, typ, mod := shape.ConText(x.Con), shape.TypeText(x), shape.ModuleText(m)
		shape.Con(x.Con)
		shape.Type(x)
		shape.Module(m)
		shape.Depth(x)
		shape.Same(x, m.Defs[0].T)
		if !equal(before, m) {
			t.Fatalf("%+v is changed to %+v", before, m)
		}
		// Others are asked in between: nothing of them is kept.
		vary(x, func(y api.Type) { shape.TypeText(y) })
		ownCon, ownType, ownModule := shape.ConText(x.Con), shape.TypeText(x), shape.ModuleText(m)
		spoilAll(reflect.ValueOf(&m).Elem())
		if ownCon != con || ownType != typ || ownModule != mod || mod != textOfModule(before) {
			t.Errorf("%q %q %q", ownCon, ownType, ownModule)
		}
	}
}

// spoilAll clears all that stands in a value's lists.
func spoilAll(v reflect.Value) {
	switch v.Kind() {
	case reflect.Struct:
		for k := range v.NumField() {
			spoilAll(v.Field(k))
		}
	case reflect.Slice:
		for k := range v.Len() {
			spoilAll(v.Index(k))
			v.Index(k).SetZero()
		}
	}
}

// FuzzType holds all functions against the model, for types and modules that
// are made out of octets.
func FuzzType(f *testing.F) {
	from := rand.New(rand.NewSource(9))
	for range 50 {
		b := make([]byte, from.Intn(200))
		from.Read(b)
		f.Add(b, uint8(from.Intn(100)))
	}
	f.Fuzz(func(t *testing.T, b []byte, wrong uint8) {
		m := maker{func(bound int) int {
			if len(b) == 0 {
				return 0
			}
			n := int(b[0]) % bound
			b = b[1:]
			return n
		}, int(wrong)}
		x, y := m.typ(6), m.typ(6)
		modelCon(t, x.Con)
		wellX, wellY := modelType(t, x), modelType(t, y)
		checkSame(t, x, y, equal(x, y))
		if wellX && wellY && (shape.TypeText(x) == shape.TypeText(y)) != equal(x, y) {
			t.Fatalf("%+v and %+v: %q and %q", x, y, shape.TypeText(x), shape.TypeText(y))
		}
		modelModule(t, m.module())
		for _, s := range []string{x.Name, string(b)} {
			if shape.Keyword(s) != (s != "" && !strings.Contains(s, " ") && strings.Contains(" "+keywords+" ", " "+s+" ")) {
				t.Fatalf("%q", s)
			}
		}
	})
}
