package member_test

import (
	"math"
	"slices"
	"strings"
	"testing"

	"spandrel/api"
	"spandrel/member"
)

// sample is a type of each Kind, as a text, and a value that belongs to it.
type sample struct {
	text  string
	value api.Value
}

// samples are one for each Kind, from Bool on.
func samples() []sample {
	return []sample{
		{"BOOLEAN", boolean(1)}, {"INTEGER", integer(1)}, {"ENUMERATED { a, b }", item("b")}, {"NULL", null()}, {"BIT STRING", bits("10")}, {"OCTET STRING", octets("10")},
		{"IA5String", str("10")}, {"SEQUENCE { a NULL }", seq("a", null())}, {"SEQUENCE OF NULL", list(null())}, {"CHOICE { a NULL }", alternative("a", null())},
	}
}

// P15.2: the chapter's example.
func TestCheckExample(t *testing.T) {
	d := rows(t, "SEQUENCE { a BOOLEAN DEFAULT TRUE, b NULL }")
	completed(t, d, seq("b", null()), seq("a b", boolean(1), null()))
	refused(t, d, seq("b a", null(), boolean(1)), "in order")
}

// P15.2: a value of each Kind belongs to a row of this Kind alone.
func TestCheckKind(t *testing.T) {
	for k, x := range samples() {
		d := rows(t, x.text)
		for other, y := range samples() {
			if k == other {
				belongs(t, d, y.value)
				continue
			}
			refused(t, d, y.value, "kind")
		}
		// The same fields under another Kind.
		for _, kind := range []int{0, 11, 12, -1, k + 2, k, math.MinInt, math.MaxInt} {
			v := x.value
			v.Kind = kind
			refused(t, d, v, "kind")
		}
	}
}

// P15.2: fields that a Kind does not mention are not set.
func TestCheckFields(t *testing.T) {
	for _, x := range []struct {
		condition string
		kinds     []int // the Kinds that mention the field
		set       []func(v *api.Value)
	}{
		{"no N", []int{api.Bool, api.Int}, []func(v *api.Value){
			func(v *api.Value) { v.N = 1 }, func(v *api.Value) { v.N = -1 }, func(v *api.Value) { v.N = math.MinInt },
		}},
		{"no S", []int{api.Enum, api.Bits, api.Octets, api.Str, api.Choice}, []func(v *api.Value){
			func(v *api.Value) { v.S = "a" }, func(v *api.Value) { v.S = "\x00" }, func(v *api.Value) { v.S = "01" },
		}},
		{"no Names", []int{api.Seq}, []func(v *api.Value){
			func(v *api.Value) { v.Names = []string{"a"} }, func(v *api.Value) { v.Names = []string{""} }, func(v *api.Value) { v.Names = []string{"a", "b"} },
		}},
		{"no L", []int{api.Seq, api.SeqOf, api.Choice}, []func(v *api.Value){
			func(v *api.Value) { v.L = []api.Value{null()} }, func(v *api.Value) { v.L = []api.Value{{}} }, func(v *api.Value) { v.L = []api.Value{null(), boolean(1)} },
		}},
	} {
		for k, y := range samples() {
			if slices.Contains(x.kinds, k+1) {
				continue
			}
			d, within := rows(t, y.text), rows(t, "SEQUENCE OF "+y.text)
			for _, set := range x.set {
				v := y.value
				set(&v)
				refused(t, d, v, x.condition)
				refused(t, within, list(y.value, v, y.value), x.condition)
			}
			// A list without elements is not set, be it nil or not.
			v := y.value
			v.Names, v.L = slices.Concat([]string{}, v.Names), slices.Concat([]api.Value{}, v.L)
			belongs(t, d, v)
			belongs(t, within, list(v, y.value))
		}
	}
}

// P15.2: Bool.
func TestCheckBool(t *testing.T) {
	d := rows(t, "BOOLEAN")
	belongs(t, d, boolean(0), boolean(1))
	for _, n := range []int{-1, 2, 3, -2, 1 << 32, 1<<32 + 1, math.MinInt, math.MinInt + 1, math.MaxInt} {
		refused(t, d, boolean(n), "0 or 1")
	}
}

// P15.2: Int, in its Set, and beside it, with Ext and without.
func TestCheckInt(t *testing.T) {
	all := []int{math.MinInt, math.MinInt + 1, -129, -7, -6, -5, -4, -1, 0, 1, 2, 3, 4, 5, 6, 7, 8, 9, 10, 11, 12, 255, 256, math.MaxInt - 1, math.MaxInt}
	for _, text := range []string{
		"", "(0..7)", "(5)", "(-6..-4)", "(0..3 | 5..7 | 9 | 11)", "(MIN..MAX)", "(1..MAX)", "(MIN..-1)", "(-5..256)", "(MIN..-6 | 0 | 9..MAX)", "(MIN..MAX EXCEPT 5)", "(MIN..-9223372036854775807 | 9223372036854775807)", "(0..10 EXCEPT (2 | 4 | 6 | 8))",
	} {
		d := rows(t, "INTEGER "+text)
		in := 0
		for _, n := range all {
			if isInSet(d[0], n) {
				belongs(t, d, integer(n))
				in++
			} else {
				refused(t, d, integer(n), "number")
			}
		}
		if in == 0 || in == len(all) && text != "" && text != "(MIN..MAX)" {
			t.Error(text, in)
		}
		for _, x := range []api.Range{d[0].Set[0], d[0].Set[len(d[0].Set)-1]} {
			belongs(t, d, integer(x.Lo), integer(x.Hi))
		}
		d[0].Ext = true
		for _, n := range all {
			belongs(t, d, integer(n))
		}
	}
	d := rows(t, "INTEGER (1..3, ...)")
	belongs(t, d, integer(0), integer(1), integer(3), integer(4), integer(math.MinInt), integer(math.MaxInt))
}

// P15.2: Enum, with a name of Names, of More, and of neither.
func TestCheckEnum(t *testing.T) {
	d := rows(t, "ENUMERATED { b, a, ..., d, c }")
	belongs(t, d, item("a"), item("b"), item("c"), item("d"))
	for _, s := range []string{"", "e", "A", "aa", "a ", " a", "ab", "b, a", "\xff"} {
		refused(t, d, item(s), "item")
	}
	for _, text := range []string{"ENUMERATED { b, a }", "ENUMERATED { b, a, ... }"} {
		d = rows(t, text)
		belongs(t, d, item("a"), item("b"))
		refused(t, d, item("c"), "item")
		refused(t, d, item(""), "item")
	}
	// A table's names may be any strings.
	d = []api.Desc{{Kind: api.Enum, Ext: true, Names: []string{"", "A B"}, More: []string{"\xff"}}}
	belongs(t, d, item(""), item("A B"), item("\xff"))
	refused(t, d, item("A"), "item")
}

// P15.2: a name may be longer than a string.
func TestCheckLongName(t *testing.T) {
	long := strings.Repeat("a", api.MaxLength+1)
	for _, x := range []struct {
		d []api.Desc
		v api.Value
	}{
		{[]api.Desc{{Kind: api.Enum, Names: []string{"a", long}}}, item(long)},
		{[]api.Desc{{Kind: api.Choice, Parts: []api.Field{{Name: long, T: 1}}, Order: []int{0}}, {Kind: api.Null}}, alternative(long, null())},
		{[]api.Desc{{Kind: api.Seq, Parts: []api.Field{{Name: long, T: 1}}}, {Kind: api.Null}}, api.Value{Kind: api.Seq, Names: []string{long}, L: []api.Value{null()}}},
	} {
		if e := member.Check(x.d, x.v); e != api.OK {
			t.Error(e)
		}
	}
}

// P15.2: Null.
func TestCheckNull(t *testing.T) {
	belongs(t, rows(t, "NULL"), null(), api.Value{Kind: api.Null, Names: []string{}, L: []api.Value{}})
}

// P15.2: the characters of Bits, Octets and Str.
func TestCheckCharacters(t *testing.T) {
	var each []string
	for c := range 256 {
		each = append(each, string([]byte{byte(c)}))
	}
	all := strings.Join(each, "")
	long := strings.Repeat("01", 300)
	for _, x := range []struct {
		text, condition string
		are             string // all characters that values may have
		make            func(string) api.Value
	}{
		{"BIT STRING", "binary", "01", bits}, {"OCTET STRING", "", all, octets}, {"IA5String", "alphabet", all[:128], str},
		{`IA5String (FROM ("a"))`, "alphabet", "a", str}, {`IA5String (FROM ("0az~"))`, "alphabet", "0az~", str}, {`IA5String (FROM (" !"))`, "alphabet", " !", str},
	} {
		d := rows(t, x.text)
		belongs(t, d, x.make(""), x.make(x.are), x.make(strings.Repeat(x.are, 3)), x.make(x.are[:1]))
		for _, s := range each {
			for _, whole := range []string{s, x.are + s, s + x.are, x.are + s + x.are} {
				if strings.Contains(x.are, s) {
					belongs(t, d, x.make(whole))
				} else {
					refused(t, d, x.make(whole), x.condition)
				}
			}
		}
	}
	belongs(t, rows(t, "BIT STRING"), bits(long))
	for at := range long {
		for _, s := range []string{"2", "/", "\n", "a", " "} {
			if at%50 == 0 || at == len(long)-1 {
				refused(t, rows(t, "BIT STRING"), bits(long[:at]+s+long[at+1:]), "binary")
			}
		}
	}
	// An alphabet that no text can have.
	d := rows(t, "IA5String")
	d[0].From = "\x00\x7f"
	belongs(t, d, str(""), str("\x00"), str("\x7f\x00\x7f"))
	refused(t, d, str("\x01"), "alphabet")
	refused(t, d, str("\x00\xff"), "alphabet")
	// Characters of more than one octet.
	for _, s := range []string{"é", "日", "a\u0080", "\u0100", "\U0001f600"} {
		refused(t, rows(t, "IA5String"), str(s), "alphabet")
		refused(t, rows(t, `IA5String (FROM ("a"))`), str(s), "alphabet")
		belongs(t, rows(t, "OCTET STRING"), octets(s))
	}
}

// sized are the types with a size, each with a constraint, and a value of a size.
func sized(con string) []struct {
	text string
	make func(int) api.Value
} {
	return []struct {
		text string
		make func(int) api.Value
	}{
		{"BIT STRING " + con, func(n int) api.Value { return bits(strings.Repeat("10", n)[:n]) }},
		{"OCTET STRING " + con, func(n int) api.Value { return octets(strings.Repeat("\xff", n)) }},
		{"IA5String " + con, func(n int) api.Value { return str(strings.Repeat("~", n)) }},
		{`IA5String (FROM ("ab")) ` + con, func(n int) api.Value { return str(strings.Repeat("ab", n)[:n]) }},
		{"SEQUENCE " + con + " OF BOOLEAN", func(n int) api.Value { return list(slices.Repeat([]api.Value{boolean(1)}, n)...) }},
	}
}

// P15.2: sizes, at both ends of the Set, beside it, and beside it with Ext.
func TestCheckSize(t *testing.T) {
	for _, con := range []string{
		"", "(SIZE (0))", "(SIZE (1))", "(SIZE (3))", "(SIZE (0..2))", "(SIZE (2..5))", "(SIZE (1 | 3..4 | 7))", "(SIZE (4..MAX))", "(SIZE (MIN..3))", "(SIZE (0 | 5..MAX))", "(SIZE (0..9 EXCEPT 4))", "(SIZE (-5..3))", "(SIZE (254..256))",
	} {
		for _, x := range sized(con) {
			d := rows(t, x.text)
			for _, n := range []int{0, 1, 2, 3, 4, 5, 6, 7, 8, 9, 10, 253, 254, 255, 256, 257} {
				if isInSet(d[0], n) {
					belongs(t, d, x.make(n))
				} else {
					refused(t, d, x.make(n), "size")
				}
			}
			d[0].Ext = true
			for _, n := range []int{0, 1, 2, 3, 4, 5, 6, 7, 8, 9, 10, 253, 257} {
				belongs(t, d, x.make(n))
			}
		}
	}
	for _, x := range sized("(SIZE (2..3, ...))") {
		belongs(t, rows(t, x.text), x.make(0), x.make(1), x.make(2), x.make(3), x.make(4), x.make(100))
	}
}

// P15.2: the greatest size.
func TestCheckMostSize(t *testing.T) {
	for _, x := range []struct {
		con  string
		most int
	}{{"", api.MaxLength}, {"(SIZE (1..MAX))", api.MaxLength}, {"(SIZE (0..1048577))", api.MaxLength}, {"(SIZE (1048577..MAX, ...))", api.MaxLength}, {"(SIZE (0..1, ...))", api.MaxLength}, {"(SIZE (0..1048576))", api.MaxLength}, {"(SIZE (0..1048575))", api.MaxLength - 1}} {
		for _, y := range sized(x.con) {
			d := rows(t, y.text)
			for n := api.MaxLength - 1; n <= api.MaxLength+2; n++ {
				want := api.OK
				if n > x.most {
					want = api.ErrConstraint
				}
				if e := member.Check(d, y.make(n)); e != want {
					t.Errorf("%s, %d: %d", y.text, n, e)
				}
			}
		}
	}
	// Only what is too long may be: nothing is.
	for _, y := range sized("(SIZE (1048577..MAX))") {
		for n := api.MaxLength; n <= api.MaxLength+1; n++ {
			if e := member.Check(rows(t, y.text), y.make(n)); e != api.ErrConstraint {
				t.Errorf("%s, %d: %d", y.text, n, e)
			}
		}
	}
}

// P15.2: SeqOf, of which each element counts.
func TestCheckSeqOf(t *testing.T) {
	d := rows(t, "SEQUENCE OF INTEGER (1..5)")
	belongs(t, d, list(), list(integer(1)), list(integer(5), integer(1), integer(5)))
	for n := range 5 {
		l := slices.Repeat([]api.Value{integer(3)}, n+1)
		for k := range l {
			for _, x := range []struct {
				v         api.Value
				condition string
			}{{integer(0), "number"}, {integer(6), "number"}, {boolean(1), "kind"}, {api.Value{Kind: api.Int, N: 1, S: "1"}, "no S"}} {
				l[k] = x.v
				refused(t, d, list(l...), x.condition)
			}
			l[k] = integer(3)
		}
	}
	refused(t, d, list(null()), "kind")
	refused(t, d, list(integer(0), null(), api.Value{Kind: api.Int, N: 1, S: "1"}), "kind", "no S", "number")
	d = rows(t, "SEQUENCE (SIZE (2)) OF SEQUENCE (SIZE (1)) OF NULL")
	belongs(t, d, list(list(null()), list(null())))
	refused(t, d, list(list(null())), "size")
	refused(t, d, list(list(null(), null()), list(null())), "size")
	refused(t, d, list(list(null()), list()), "size")
	refused(t, d, list(list(null()), null()), "kind")
}

// P15.2: Choice, with none of its names, with no element and with two.
func TestCheckChoice(t *testing.T) {
	d := rows(t, "CHOICE { a INTEGER (1..5), b NULL, ..., d BOOLEAN, c INTEGER }")
	belongs(t, d, alternative("a", integer(1)), alternative("b", null()), alternative("d", boolean(0)), alternative("c", integer(7)))
	for _, s := range []string{"", "e", "A", "aa", "a "} {
		refused(t, d, alternative(s, integer(1)), "known")
		refused(t, d, alternative(s), "known", "one element")
		refused(t, d, alternative(s, null(), null()), "known", "one element")
	}
	refused(t, d, alternative("a"), "one element")
	refused(t, d, alternative("d"), "one element")
	refused(t, d, alternative("a", integer(1), integer(1)), "one element")
	refused(t, d, alternative("c", integer(1), integer(1)), "one element")
	refused(t, d, alternative("b", null(), null(), null()), "one element")
	refused(t, d, alternative("a", integer(6)), "number")
	refused(t, d, alternative("a", null()), "kind")
	refused(t, d, alternative("b", integer(1)), "kind")
	refused(t, d, alternative("d", boolean(2)), "0 or 1")
	refused(t, d, alternative("d", integer(1)), "kind")
	// The order of the alternatives does not count.
	d = rows(t, "CHOICE { a INTEGER, b NULL }")
	d[0].Order = []int{1, 0}
	belongs(t, d, alternative("a", integer(1)), alternative("b", null()))
	refused(t, d, alternative("a", null()), "kind")
}

// P15.2: Seq.
func TestCheckSeq(t *testing.T) {
	d := rows(t, "SEQUENCE { a BOOLEAN, b INTEGER (1..5) OPTIONAL, c BOOLEAN DEFAULT TRUE, g NULL, ..., e NULL, d INTEGER OPTIONAL, f ENUMERATED { x, y } DEFAULT y }")
	value := map[string]api.Value{"a": boolean(1), "b": integer(5), "c": boolean(0), "g": null(), "e": null(), "d": integer(7), "f": item("x"), "z": null(), "": null()}
	of := func(names string) api.Value {
		v := seq(names)
		for _, s := range v.Names {
			v.L = append(v.L, value[s])
		}
		return v
	}
	// With or without each part that need not be there; an addition need never be.
	for set := range 32 {
		names := []string{"a"}
		for k, s := range []string{"b", "c", "e", "d", "f"} {
			if k == 2 {
				names = append(names, "g")
			}
			if set>>k&1 == 1 {
				names = append(names, s)
			}
		}
		v := of(strings.Join(names, " "))
		if c, e := hold(t, d, v); e != api.OK || !slices.Contains(c.Names, "c") || !slices.Contains(c.Names, "f") {
			t.Errorf("%s: %s, %d", told(v), told(c), e)
		}
	}
	for _, x := range []struct {
		names      string
		conditions []string
	}{
		{"", []string{"required"}}, {"a", []string{"required"}}, {"g", []string{"required"}}, {"a b c", []string{"required"}}, {"b c g e d f", []string{"required"}}, {"a b c e d f", []string{"required"}}, {"b c", []string{"required"}}, {"e", []string{"required"}},
		{"g a", []string{"in order"}}, {"b a g", []string{"in order"}}, {"a g b", []string{"in order"}}, {"a c b g", []string{"in order"}}, {"a g d e", []string{"in order"}}, {"a e g", []string{"in order"}}, {"e a g", []string{"in order"}}, {"a b c g f d", []string{"in order"}}, {"f d e g c b a", []string{"in order"}},
		{"a a g", []string{"once"}}, {"a g g", []string{"once"}}, {"a b b g", []string{"once"}}, {"a g e e", []string{"once"}}, {"a g f f", []string{"once"}}, {"a b b b g", []string{"once"}}, {"a b a g", []string{"in order", "once"}}, {"a g e f e", []string{"in order", "once"}}, {"a a", []string{"once", "required"}},
		{"a g z", []string{"known"}}, {"z a g", []string{"known"}}, {"a z g", []string{"known"}}, {"a g e z f", []string{"known"}}, {"z", []string{"known", "required"}}, {"a g A", []string{"known"}}, {"a g z z", []string{"known", "once"}}, {"z g", []string{"known", "required"}},
	} {
		v := of(x.names)
		for k, s := range v.Names {
			if s == "A" {
				v.L[k] = boolean(1)
			}
		}
		refused(t, d, v, x.conditions...)
	}
	// Each value counts.
	for _, s := range strings.Fields("a b c g e d f") {
		v := of("a b c g e d f")
		k := slices.Index(v.Names, s)
		v.L[k] = str("a")
		refused(t, d, v, "kind")
		v.L[k] = value[s]
		v.L[k].Names = []string{s}
		refused(t, d, v, "no Names")
		v.L[k] = value[s]
		completed(t, d, v, v)
	}
	v := of("a b c g e d f")
	v.L[1].N = 6
	refused(t, d, v, "number")
	v.L[6].S = "z"
	refused(t, d, v, "item", "number")
}

// P15.2: a Seq with more names than elements, and with fewer.
func TestCheckSeqLists(t *testing.T) {
	d := rows(t, "SEQUENCE { a BOOLEAN, b BOOLEAN OPTIONAL, c BOOLEAN OPTIONAL, ..., d BOOLEAN }")
	one := boolean(1)
	belongs(t, d, seq("a", one), seq("a b", one, one), seq("a c", one, one), seq("a d", one, one), seq("a b c d", one, one, one, one))
	for _, v := range []api.Value{
		seq("a"), seq("a b", one), seq("a b c d", one), seq("a b c d", one, one, one), seq("a", one, one), seq("a b", one, one, one), seq("a b c d", one, one, one, one, one), seq("a d", one),
	} {
		refused(t, d, v, "as many")
	}
	refused(t, d, seq("", one), "as many", "required")
	refused(t, d, seq("", one, one), "as many", "required")
	refused(t, d, seq("b", one, one), "as many", "required")
	// Nothing but an element, where there are no parts.
	for _, text := range []string{"SEQUENCE { }", "SEQUENCE { ... }"} {
		d = rows(t, text)
		belongs(t, d, seq(""))
		refused(t, d, seq("", one), "as many")
		refused(t, d, seq("a", one), "known")
		refused(t, d, seq("a"), "as many", "known")
	}
	// A name may be empty, if it is one of the table's.
	d = []api.Desc{{Kind: api.Seq, Ext: true, Parts: []api.Field{{Name: "", T: 1}}, Adds: []api.Field{{Name: "\xff", T: 1}}}, {Kind: api.Bool}}
	belongs(t, d, api.Value{Kind: api.Seq, Names: []string{""}, L: []api.Value{one}}, api.Value{Kind: api.Seq, Names: []string{"", "\xff"}, L: []api.Value{one, one}})
	refused(t, d, seq(""), "required")
}

// P15.2: rows other than the first one are those of parts and elements alone.
func TestCheckFirstRow(t *testing.T) {
	d := rows(t, "A ::= SEQUENCE { a B, b SEQUENCE OF A OPTIONAL }\nB ::= CHOICE { a A, b INTEGER }")
	leaf := seq("a", alternative("b", integer(5)))
	belongs(t, d, leaf, seq("a", alternative("a", leaf)), seq("a b", alternative("a", leaf), list(leaf, leaf)), seq("a b", alternative("b", integer(1)), list()))
	refused(t, d, alternative("b", integer(5)), "kind")
	refused(t, d, seq("a", leaf), "kind")
	refused(t, d, seq("a", alternative("a", alternative("b", integer(5)))), "kind")
}
