package shape_test

import (
	"fmt"
	"math"
	"strings"
	"testing"

	"spandrel/api"
	"spandrel/shape"
)

// span is a constraint between two numbers, one a number.
func span(lo, hi int) api.Con { return api.Con{Op: api.Span, Lo: lo, Hi: hi} }
func one(n int) api.Con       { return span(n, n) }

// union, meet and except are constraints that consist of others.
func union(l ...api.Con) api.Con  { return api.Con{Op: api.Union, L: l} }
func meet(l ...api.Con) api.Con   { return api.Con{Op: api.Meet, L: l} }
func except(l ...api.Con) api.Con { return api.Con{Op: api.Except, L: l} }

// The ends of spans.
var (
	fromMin = api.Con{Op: api.Span, Low: true, Hi: 7}
	toMax   = api.Con{Op: api.Span, Lo: 5, High: true}
	anyOf   = api.Con{Op: api.Span, Low: true, High: true}
)

// checkCon holds what all functions say of a constraint against its text, which
// is empty if it is not well-formed.
func checkCon(t *testing.T, c api.Con, text string) {
	t.Helper()
	modelCon(t, c)
	if well := text != ""; shape.Con(c) != well || shape.ConText(c) != text {
		t.Errorf("%.300s: %v %.300q, not %v %.300q", fmt.Sprintf("%+v", c), shape.Con(c), shape.ConText(c), well, text)
	}
	for _, x := range []struct {
		t              api.Type
		before, behind string
	}{
		{api.Type{Kind: api.Int, Con: c}, "INTEGER (", ")"},
		{api.Type{Kind: api.Int, Con: c, Ext: true}, "INTEGER (", ", ...)"},
		{api.Type{Kind: api.Bits, Con: c}, "BIT STRING (SIZE (", "))"},
		{api.Type{Kind: api.Octets, Con: c, Ext: true}, "OCTET STRING (SIZE (", ", ...))"},
		{api.Type{Kind: api.Str, Con: c}, "IA5String (SIZE (", "))"},
		{api.Type{Kind: api.Str, Con: c, Ext: true, From: "ab"}, "IA5String (FROM (\"ab\")) (SIZE (", ", ...))"},
		{api.Type{Kind: api.SeqOf, Con: c, Elem: []api.Type{{Kind: api.Null}}}, "SEQUENCE (SIZE (", ")) OF NULL"},
	} {
		if text == "" {
			checkType(t, x.t, "")
		} else {
			checkType(t, x.t, x.before+text+x.behind)
		}
	}
	for _, kind := range []int{api.Bool, api.Null, api.Enum, api.Seq, api.Choice, api.Ref, 0, 12} {
		x := base(kind)
		x.Con = c
		checkType(t, x, "")
	}
}

// P8.1, P8.2: spans, of one number and of more, with Low, with High, with both.
func TestSpans(t *testing.T) {
	const most = math.MaxInt
	for _, x := range []struct {
		c    api.Con
		text string
	}{
		{one(0), "0"}, {one(1), "1"}, {one(-1), "-1"}, {one(10), "10"}, {one(most), "9223372036854775807"}, {one(-most), "-9223372036854775807"},
		{span(0, 7), "0..7"}, {span(-5, -3), "-5..-3"}, {span(-1, 1), "-1..1"}, {span(1, 300), "1..300"}, {span(-most, most), "-9223372036854775807..9223372036854775807"},
		{span(5, 4), "5..4"}, {span(most, -most), "9223372036854775807..-9223372036854775807"},
		{fromMin, "MIN..7"}, {toMax, "5..MAX"}, {anyOf, "MIN..MAX"},
		{api.Con{Op: api.Span, Low: true}, "MIN..0"}, {api.Con{Op: api.Span, High: true}, "0..MAX"},
		{api.Con{Op: api.Span, Low: true, Hi: -most}, "MIN..-9223372036854775807"}, {api.Con{Op: api.Span, Low: true, Hi: most}, "MIN..9223372036854775807"},
		{api.Con{Op: api.Span, Lo: -most, High: true}, "-9223372036854775807..MAX"}, {api.Con{Op: api.Span, Lo: most, High: true}, "9223372036854775807..MAX"},
		{api.Con{Op: api.Span, Lo: 1, Hi: 2, L: []api.Con{}}, "1..2"},
	} {
		checkCon(t, x.c, x.text)
	}
}

// P8.1, P8.2: unions and meets of two and of more, an Except of two, and each
// within each other.
func TestCombined(t *testing.T) {
	a, b := span(1, 2), one(3)
	for _, x := range []struct {
		c    api.Con
		text string
	}{
		{union(a, b), "1..2 | 3"}, {meet(a, b), "1..2 ^ 3"}, {except(a, b), "1..2 EXCEPT 3"},
		{union(a, a), "1..2 | 1..2"}, {union(b, fromMin, toMax, anyOf), "3 | MIN..7 | 5..MAX | MIN..MAX"},
		{meet(a, b, a), "1..2 ^ 3 ^ 1..2"}, {meet(toMax, fromMin, one(-1), b, b), "5..MAX ^ MIN..7 ^ -1 ^ 3 ^ 3"},
		{except(fromMin, one(-1)), "MIN..7 EXCEPT -1"}, {except(anyOf, anyOf), "MIN..MAX EXCEPT MIN..MAX"},

		{union(union(a, b), b), "(1..2 | 3) | 3"}, {union(a, union(a, b)), "1..2 | (1..2 | 3)"}, {union(meet(a, b), b), "(1..2 ^ 3) | 3"}, {union(a, except(a, b)), "1..2 | (1..2 EXCEPT 3)"},
		{meet(union(a, b), b), "(1..2 | 3) ^ 3"}, {meet(a, meet(a, b)), "1..2 ^ (1..2 ^ 3)"}, {meet(a, except(a, b), b), "1..2 ^ (1..2 EXCEPT 3) ^ 3"},
		{except(union(a, b), b), "(1..2 | 3) EXCEPT 3"}, {except(a, meet(a, b)), "1..2 EXCEPT (1..2 ^ 3)"}, {except(except(a, b), except(b, a)), "(1..2 EXCEPT 3) EXCEPT (3 EXCEPT 1..2)"},
		{union(meet(except(a, b), b), b, union(a, b)), "((1..2 EXCEPT 3) ^ 3) | 3 | (1..2 | 3)"},
		{except(anyOf, union(meet(union(a, b), b), a)), "MIN..MAX EXCEPT (((1..2 | 3) ^ 3) | 1..2)"},
	} {
		checkCon(t, x.c, x.text)
	}
	// There may be more elements than there may be names.
	for _, n := range []int{255, 256, 257, 3000} {
		l := make([]api.Con, n)
		for k := range l {
			l[k] = b
		}
		checkCon(t, union(l...), strings.Repeat("3 | ", n-1)+"3")
		checkCon(t, meet(l...), strings.Repeat("3 ^ ", n-1)+"3")
		checkCon(t, except(l...), "")
	}
}

// P8.1, P8.2: All has no text, but is well-formed.
func TestAll(t *testing.T) {
	for _, c := range []api.Con{{}, {L: []api.Con{}}} {
		modelCon(t, c)
		if !shape.Con(c) || shape.ConText(c) != "" {
			t.Error(shape.Con(c), shape.ConText(c))
		}
		for kind, text := range map[int]string{api.Bool: "BOOLEAN", api.Int: "INTEGER", api.Null: "NULL", api.Bits: "BIT STRING", api.Octets: "OCTET STRING", api.Str: "IA5String", api.SeqOf: "SEQUENCE OF NULL", api.Ref: "T"} {
			x := base(kind)
			x.Con = c
			checkType(t, x, text)
			x.Ext = true // There is no constraint that may be extended.
			checkType(t, x, "")
		}
	}
}

// P8.1, P8.2: constraints that are not well-formed, alone and within each other.
func TestWrongCons(t *testing.T) {
	a, b := span(1, 2), one(3)
	ab := []api.Con{a, b}
	wrong := []api.Con{
		{Lo: 1}, {Hi: 1}, {Low: true}, {High: true}, {L: ab}, {L: ab[:1]}, {Lo: -1, Hi: -1}, {Low: true, High: true}, {L: []api.Con{{}}}, {Lo: math.MinInt}, {Hi: math.MinInt},

		{Op: api.Span, Lo: 1, Low: true}, {Op: api.Span, Lo: -1, Hi: 1, Low: true}, {Op: api.Span, Hi: 1, High: true}, {Op: api.Span, Lo: 1, Hi: -1, High: true},
		{Op: api.Span, Lo: 1, Low: true, High: true}, {Op: api.Span, Hi: 1, Low: true, High: true}, {Op: api.Span, Lo: 1, Hi: 1, Low: true, High: true},
		{Op: api.Span, L: ab}, {Op: api.Span, Lo: 1, Hi: 2, L: ab[:1]}, {Op: api.Span, Low: true, L: ab}, {Op: api.Span, L: []api.Con{{}}},
		span(math.MinInt, 0), span(0, math.MinInt), one(math.MinInt), span(math.MinInt, math.MaxInt),
		{Op: api.Span, Lo: math.MinInt, Low: true}, {Op: api.Span, Lo: math.MinInt, High: true}, {Op: api.Span, Hi: math.MinInt, Low: true}, {Op: api.Span, Hi: math.MinInt, High: true},

		{Op: -1}, {Op: 5}, {Op: 6}, {Op: math.MinInt}, {Op: math.MaxInt}, {Op: -1, Lo: 1, Hi: 2}, {Op: 5, L: ab}, {Op: 256 + api.Union, L: ab}, {Op: 5, Lo: 1, Hi: 2},
		except(), except(a), except(a, b, a), except(a, b, a, b),
	}
	for _, op := range []int{api.Union, api.Meet, api.Except} {
		for _, x := range []api.Con{
			{}, {L: []api.Con{}}, {L: ab[:1]}, {L: ab, Lo: 1}, {L: ab, Hi: 1}, {L: ab, Lo: 1, Hi: 1}, {L: ab, Low: true}, {L: ab, High: true}, {L: ab, Low: true, High: true}, {L: ab, Lo: math.MinInt}, {Lo: 1, Hi: 2}, {Low: true},
			{L: []api.Con{{}, {}}}, {L: []api.Con{a, {}}}, {L: []api.Con{{}, a}}, {L: []api.Con{a, {L: ab}}},
		} {
			x.Op = op
			wrong = append(wrong, x)
		}
	}
	wrong = append(wrong, union(a, b, api.Con{}), meet(a, api.Con{}, b), union(api.Con{}, a, b))
	for _, c := range wrong {
		checkCon(t, c, "")
		for _, x := range []api.Con{union(a, c), union(c, a), union(a, b, c), meet(c, a), meet(a, c, b), except(a, c), except(c, a), union(a, meet(b, except(c, a)))} {
			checkCon(t, x, "")
		}
	}
}

// nestedCon is a constraint that is n deep, and its text; ops are the Ops from
// its outside on.
func nestedCon(n int, ops ...int) (api.Con, string) {
	c, text := one(3), "3"
	for k := n - 2; k >= 0; k-- {
		op := ops[k%len(ops)]
		inner := text
		if c.Op != api.Span {
			inner = "(" + text + ")"
		}
		text = "1" + []string{2: " | ", 3: " ^ ", 4: " EXCEPT "}[op] + inner
		c = api.Con{Op: op, L: []api.Con{one(1), c}}
	}
	return c, text
}

// P8.1, P8.2: constraints 40 deep and deeper.
func TestDeepCons(t *testing.T) {
	for _, ops := range [][]int{{api.Union}, {api.Meet}, {api.Except}, {api.Union, api.Meet}, {api.Except, api.Union, api.Meet}, {api.Meet, api.Except}} {
		for n := 1; n <= 40; n++ {
			c, text := nestedCon(n, ops...)
			checkCon(t, c, text)
		}
		for _, n := range []int{41, 42, 43, 80, 81, 256, 1000} {
			c, _ := nestedCon(n, ops...)
			checkCon(t, c, "")
		}
	}
	// The first element counts as the last one does.
	c := one(1)
	for range 39 {
		c = union(c, one(2), one(3))
	}
	checkCon(t, c, strings.Repeat("(", 38)+"1 | 2 | 3"+strings.Repeat(") | 2 | 3", 38))
	checkCon(t, meet(c, one(2)), "")
	checkCon(t, except(one(2), c), "")
	// A constraint is as deep as it is alone, however deep its type is.
	c, text := nestedCon(40, api.Union)
	x := api.Type{Kind: api.Int, Con: c}
	for range 39 {
		x = api.Type{Kind: api.SeqOf, Con: c, Elem: []api.Type{x}}
	}
	checkType(t, x, strings.Repeat("SEQUENCE (SIZE ("+text+")) OF ", 39)+"INTEGER ("+text+")")
	// A list that is an element of itself is deeper than all others.
	ring := []api.Con{one(1), union(one(1), one(2))}
	ring[1].L = ring
	for _, c := range []api.Con{ring[1], union(ring...), except(one(1), ring[1]), {L: ring}, {Op: api.Span, L: ring}, {Op: 9, L: ring}} {
		if shape.Con(c) || shape.ConText(c) != "" || shape.Type(api.Type{Kind: api.Int, Con: c}) {
			t.Errorf("Op %d: well-formed", c.Op)
		}
	}
}

// P8.1, P8.2: all that differs in one thing from some constraints, held against
// the model.
func TestVariedCons(t *testing.T) {
	deepest, _ := nestedCon(40, api.Union, api.Meet, api.Except)
	for _, c := range []api.Con{
		{}, one(3), span(1, 2), fromMin, toMax, anyOf, union(one(1), fromMin), meet(one(1), span(2, 3), toMax), except(anyOf, one(4)),
		union(meet(one(1), except(span(2, 3), one(2))), one(5)), except(union(one(1), fromMin, one(3)), meet(toMax, one(1))), deepest,
	} {
		modelCon(t, c)
		vary(c, func(x api.Con) { modelCon(t, x) })
	}
}
