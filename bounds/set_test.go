package bounds_test

import (
	"slices"
	"testing"

	"spandrel/api"
	"spandrel/bounds"
	"spandrel/parse"
)

// row is a constraint, and what it admits of all integers, and of all sizes.
type row struct {
	c          api.Con
	all, sizes []api.Range
}

// allRows are rows of constraints that admit every integer.
func allRows() []row {
	var l []row
	for _, c := range []api.Con{
		{},
		// What other Ops mention does not matter.
		{Lo: 5, Hi: 3}, {Lo: 5, Hi: 9, Low: true}, {Lo: 5, Hi: 9, High: true}, {L: []api.Con{}}, {L: []api.Con{span(5, 4)}}, {L: []api.Con{{Op: 9}, {Op: 9}}},
		// Neither bound, whatever Lo and Hi are.
		{Op: api.Span, Low: true, High: true}, {Op: api.Span, Low: true, High: true, Lo: 5, Hi: 3}, {Op: api.Span, Low: true, High: true, Lo: most, Hi: least},
		upFrom(least), upTo(most), span(least, most),
		// Neither of these asks for anything without elements.
		meet(), except(), {Op: api.Meet, Lo: 5, Hi: 3}, {Op: api.Except, Lo: 5, Hi: 3}, {Op: api.Meet, L: []api.Con{}}, {Op: api.Except, L: []api.Con{}},
		// Combinations.
		union(api.Con{}), meet(api.Con{}), except(api.Con{}), union(one(5), api.Con{}), union(api.Con{}, one(5), con(9)), meet(api.Con{}, api.Con{}, meet()),
		except(api.Con{}, union()), except(api.Con{}, span(5, 4), con(9)), except(except(), union()), union(upTo(0), upFrom(1)), union(span(least, -1), span(0, most)),
		union(upFrom(6), one(5), upTo(4)), meet(upTo(most), upFrom(least)),
	} {
		l = append(l, row{c, set(least, most), set(0, most)})
	}
	return l
}

// emptyRows are rows of constraints that admit nothing.
func emptyRows() []row {
	var l []row
	for _, c := range []api.Con{
		span(5, 4), span(0, -1), span(most, least), span(most, most-1), span(least+1, least), span(1, -1),
		union(), {Op: api.Union, Low: true, High: true}, {Op: api.Union, Lo: 1, Hi: 5, L: []api.Con{}},
		union(span(5, 4)), union(span(5, 4), union(), con(9)), union(meet(one(1), one(2)), except(one(1), one(1))),
		meet(span(5, 4)), meet(union()), meet(one(1), one(2)), meet(one(1), one(2), one(1)), meet(span(1, 3), span(4, 9)), meet(api.Con{}, union()), meet(upTo(4), upFrom(5)),
		meet(one(least), one(most)), meet(union(one(1), one(3)), union(one(2), one(4))), meet(span(1, 5), span(3, 7), one(1)), meet(span(1, 5), con(9)),
		except(span(5, 4)), except(union()), except(union(), one(5)), except(one(5), one(5)), except(one(5), one(4), one(5)), except(span(1, 5), api.Con{}), except(api.Con{}, api.Con{}),
		except(api.Con{}, upTo(4), upFrom(5)), except(span(1, 5), span(1, 2), span(3, 5)), except(span(1, 5), span(4, 9), span(-3, 1), span(2, 4)), except(con(9), one(1)), except(con(9)), except(one(1), except()), except(one(1), meet()),
		except(one(least), upTo(least)), except(one(most), upFrom(most)), except(api.Con{}, span(least, most)),
	} {
		l = append(l, row{c: c})
	}
	for _, op := range otherOps {
		l = append(l, row{c: con(op)}, row{c: con(op, api.Con{})}, row{c: con(op, one(1), one(2))}, row{c: api.Con{Op: op, Lo: 1, Hi: 5}}, row{c: api.Con{Op: op, Low: true, High: true}})
	}
	return l
}

// spanRows are rows of Spans.
func spanRows() []row {
	return []row{
		{one(0), set(0, 0), set(0, 0)},
		{one(5), set(5, 5), set(5, 5)},
		{one(-5), set(-5, -5), nil},
		{one(least), set(least, least), nil},
		{one(most), set(most, most), set(most, most)},
		{span(1, 5), set(1, 5), set(1, 5)},
		{span(-5, -1), set(-5, -1), nil},
		{span(-5, 0), set(-5, 0), set(0, 0)},
		{span(-5, 3), set(-5, 3), set(0, 3)},
		{span(-1, most), set(-1, most), set(0, most)},
		{span(0, most), set(0, most), set(0, most)},
		{span(1, most), set(1, most), set(1, most)},
		{span(least, -1), set(least, -1), nil},
		{span(least, 0), set(least, 0), set(0, 0)},
		{span(least, 7), set(least, 7), set(0, 7)},
		{span(least, least+1), set(least, least+1), nil},
		{span(least+1, most-1), set(least+1, most-1), set(0, most-1)},
		{span(most-1, most), set(most-1, most), set(most-1, most)},
		{upTo(5), set(least, 5), set(0, 5)},
		{upTo(0), set(least, 0), set(0, 0)},
		{upTo(-1), set(least, -1), nil},
		{upTo(least), set(least, least), nil},
		{upTo(most - 1), set(least, most-1), set(0, most-1)},
		{upFrom(5), set(5, most), set(5, most)},
		{upFrom(0), set(0, most), set(0, most)},
		{upFrom(-5), set(-5, most), set(0, most)},
		{upFrom(most), set(most, most), set(most, most)},
		{upFrom(least + 1), set(least+1, most), set(0, most)},
		// A bound that is not there does not matter, nor do elements.
		{api.Con{Op: api.Span, Low: true, Lo: 9, Hi: 5}, set(least, 5), set(0, 5)},
		{api.Con{Op: api.Span, Low: true, Lo: most, Hi: least}, set(least, least), nil},
		{api.Con{Op: api.Span, Low: true, Lo: 3, Hi: 5}, set(least, 5), set(0, 5)},
		{api.Con{Op: api.Span, High: true, Lo: 9, Hi: 5}, set(9, most), set(9, most)},
		{api.Con{Op: api.Span, High: true, Lo: most, Hi: least}, set(most, most), set(most, most)},
		{api.Con{Op: api.Span, High: true, Lo: 3, Hi: 5}, set(3, most), set(3, most)},
		{api.Con{Op: api.Span, Lo: 3, Hi: 5, L: []api.Con{one(9), {Op: 9}}}, set(3, 5), set(3, 5)},
	}
}

// combinedRows are rows of Union, Meet and Except.
func combinedRows() []row {
	return []row{
		// The chapter's example.
		{except(union(span(0, 7), one(9)), one(3)), set(0, 2, 4, 7, 9, 9), set(0, 2, 4, 7, 9, 9)},
		// One element.
		{union(span(1, 5)), set(1, 5), set(1, 5)},
		{meet(span(1, 5)), set(1, 5), set(1, 5)},
		{except(span(1, 5)), set(1, 5), set(1, 5)},
		{union(upTo(-1)), set(least, -1), nil},
		{meet(upTo(3)), set(least, 3), set(0, 3)},
		{except(upTo(3)), set(least, 3), set(0, 3)},
		// Two.
		{union(span(1, 3), span(7, 9)), set(1, 3, 7, 9), set(1, 3, 7, 9)},
		{union(span(7, 9), span(1, 3)), set(1, 3, 7, 9), set(1, 3, 7, 9)},
		{union(span(1, 3), span(5, 9)), set(1, 3, 5, 9), set(1, 3, 5, 9)},
		{union(span(1, 3), span(4, 9)), set(1, 9), set(1, 9)},
		{union(span(4, 9), span(1, 3)), set(1, 9), set(1, 9)},
		{union(span(1, 6), span(4, 9)), set(1, 9), set(1, 9)},
		{union(span(1, 9), span(4, 6)), set(1, 9), set(1, 9)},
		{union(span(4, 6), span(1, 9)), set(1, 9), set(1, 9)},
		{union(one(5), one(5)), set(5, 5), set(5, 5)},
		{union(span(5, 4), span(1, 2)), set(1, 2), set(1, 2)},
		{union(upTo(-3), upFrom(3)), set(least, -3, 3, most), set(3, most)},
		{union(one(least), one(most)), set(least, least, most, most), set(most, most)},
		{union(con(9), one(1)), set(1, 1), set(1, 1)},
		{meet(span(1, 6), span(4, 9)), set(4, 6), set(4, 6)},
		{meet(span(1, 4), span(4, 9)), set(4, 4), set(4, 4)},
		{meet(span(1, 9), span(4, 6)), set(4, 6), set(4, 6)},
		{meet(upFrom(-2), upTo(2)), set(-2, 2), set(0, 2)},
		{meet(api.Con{}, span(1, 5)), set(1, 5), set(1, 5)},
		{meet(upTo(most), one(most)), set(most, most), set(most, most)},
		{meet(upFrom(least), one(least)), set(least, least), nil},
		{except(span(1, 9), one(5)), set(1, 4, 6, 9), set(1, 4, 6, 9)},
		{except(span(1, 9), one(1)), set(2, 9), set(2, 9)},
		{except(span(1, 9), one(9)), set(1, 8), set(1, 8)},
		{except(span(1, 9), one(0)), set(1, 9), set(1, 9)},
		{except(span(1, 9), span(5, 20)), set(1, 4), set(1, 4)},
		{except(one(5), span(1, 9)), nil, nil},
		{except(api.Con{}, one(5)), set(least, 4, 6, most), set(0, 4, 6, most)},
		{except(api.Con{}, upTo(-1)), set(0, most), set(0, most)},
		{except(api.Con{}, upFrom(0)), set(least, -1), nil},
		{except(api.Con{}, one(least)), set(least+1, most), set(0, most)},
		{except(api.Con{}, one(most)), set(least, most-1), set(0, most-1)},
		{except(span(1, 5), con(9)), set(1, 5), set(1, 5)},
		{except(span(1, 5), span(3, 2)), set(1, 5), set(1, 5)},
		{except(span(1, 5), union()), set(1, 5), set(1, 5)},
		// Many.
		{union(one(9), one(1), one(5), one(3), one(7)), set(1, 1, 3, 3, 5, 5, 7, 7, 9, 9), set(1, 1, 3, 3, 5, 5, 7, 7, 9, 9)},
		{union(one(3), one(1), one(2), one(4)), set(1, 4), set(1, 4)},
		{union(one(-3), one(3), one(-2), one(4), span(9, 8), con(7)), set(-3, -2, 3, 4), set(3, 4)},
		{meet(span(1, 20), span(5, 30), span(-4, 15), upTo(12)), set(5, 12), set(5, 12)},
		{meet(union(one(1), one(3), one(5)), union(one(5), one(3), one(7)), upFrom(2)), set(3, 3, 5, 5), set(3, 3, 5, 5)},
		{except(span(1, 9), one(3), one(5), one(9)), set(1, 2, 4, 4, 6, 8), set(1, 2, 4, 4, 6, 8)},
		{except(span(1, 9), one(9), one(1), span(4, 6)), set(2, 3, 7, 8), set(2, 3, 7, 8)},
		{except(span(1, 9), span(2, 4), one(3)), set(1, 1, 5, 9), set(1, 1, 5, 9)},
		{except(span(1, 9), one(3), span(2, 4), con(8), span(7, 6)), set(1, 1, 5, 9), set(1, 1, 5, 9)},
		{except(one(3), span(1, 9), one(3)), nil, nil},
		// Combinations of combinations: what is taken away from what is taken away
		// stays.
		{except(span(1, 9), except(span(1, 9), one(5))), set(5, 5), set(5, 5)},
		{except(span(1, 9), except(span(3, 7), one(5)), one(1)), set(2, 2, 5, 5, 8, 9), set(2, 2, 5, 5, 8, 9)},
		{except(except(span(1, 9), one(5)), except(span(5, 9), one(7))), set(1, 4, 7, 7), set(1, 4, 7, 7)},
		{union(meet(span(1, 5), span(3, 9)), except(span(20, 30), one(25))), set(3, 5, 20, 24, 26, 30), set(3, 5, 20, 24, 26, 30)},
		{meet(union(one(1), one(5), one(9)), except(api.Con{}, one(5))), set(1, 1, 9, 9), set(1, 1, 9, 9)},
		{meet(except(api.Con{}, one(5)), except(api.Con{}, one(6)), span(4, 7)), set(4, 4, 7, 7), set(4, 4, 7, 7)},
		{except(meet(), one(5)), set(least, 4, 6, most), set(0, 4, 6, most)},
		{except(except(), one(5)), set(least, 4, 6, most), set(0, 4, 6, most)},
		{union(span(1, 5), union(), meet(one(1), one(2)), one(7)), set(1, 5, 7, 7), set(1, 5, 7, 7)},
		// Lo, Hi, Low and High do not matter here.
		{api.Con{Op: api.Union, Lo: 2, Hi: 4, L: []api.Con{one(1), one(5)}}, set(1, 1, 5, 5), set(1, 1, 5, 5)},
		{api.Con{Op: api.Union, Low: true, High: true, L: []api.Con{one(1)}}, set(1, 1), set(1, 1)},
		{api.Con{Op: api.Meet, Lo: 2, Hi: 4, Low: true, L: []api.Con{span(1, 5), span(3, 9)}}, set(3, 5), set(3, 5)},
		{api.Con{Op: api.Except, Lo: 2, Hi: 4, High: true, L: []api.Con{span(1, 5), one(3)}}, set(1, 2, 4, 5), set(1, 2, 4, 5)},
	}
}

// rows are all rows.
func rows() []row {
	return slices.Concat(allRows(), emptyRows(), spanRows(), combinedRows())
}

// P12.1: the rows, and each of them with each other parent.
func TestSet(t *testing.T) {
	for _, x := range rows() {
		hold(t, x.c, set(least, most), x.all)
		hold(t, x.c, bounds.Size(), x.sizes)
		for _, parent := range parents() {
			holdModel(t, x.c, parent)
		}
	}
}

// P12.1: each row as an element, alone and among others, at each place.
func TestElements(t *testing.T) {
	for _, x := range rows() {
		for _, op := range combinations {
			hold(t, con(op, x.c), set(least, most), x.all)
			for _, other := range []api.Con{{}, span(2, 6), span(5, 4), con(9), union(one(1), one(4), upFrom(8))} {
				for _, l := range [][]api.Con{{x.c, other}, {other, x.c}, {x.c, other, one(3)}, {other, x.c, one(3)}, {other, one(3), x.c}, {span(-9, 9), other, one(3), x.c, span(7, 8)}} {
					holdModel(t, con(op, l...), set(least, most))
					holdModel(t, con(op, l...), set(4, 20, 0, 6))
				}
			}
		}
		// No other Op has elements that matter.
		for _, op := range otherOps {
			hold(t, con(op, x.c, x.c), set(least, most), nil)
			hold(t, union(con(op, x.c), x.c), set(least, most), x.all)
			hold(t, meet(x.c, con(op, x.c)), set(least, most), nil)
			hold(t, except(x.c, con(op, x.c)), set(least, most), x.all)
			hold(t, except(con(op, x.c), x.c), set(least, most), nil)
		}
	}
}

// P12.1: parents that are empty, that are not normalized, that are all integers.
func TestParents(t *testing.T) {
	inside := union(span(2, 6), one(9))
	for _, x := range []struct {
		parent, want, all []api.Range
	}{
		{nil, nil, nil},
		{set(), nil, nil},
		{[]api.Range{}, nil, nil},
		{set(5, 4), nil, nil},
		{set(most, least), nil, nil},
		{set(5, 4, 9, 8, 0, -1), nil, nil},
		{set(least, most), set(2, 6, 9, 9), set(least, most)},
		{set(0, most, least, -1), set(2, 6, 9, 9), set(least, most)},
		{set(least, 5, 3, most), set(2, 6, 9, 9), set(least, most)},
		{set(1, 7), set(2, 6), set(1, 7)},
		{set(3, 4), set(3, 4), set(3, 4)},
		{set(7, 8), nil, set(7, 8)},
		{set(20, 30), nil, set(20, 30)},
		{set(1, 2, 6, 6, 8, 10), set(2, 2, 6, 6, 9, 9), set(1, 2, 6, 6, 8, 10)},
		{set(5, 7, 1, 3, 4, 4), set(2, 6), set(1, 7)},
		{set(9, 9, 5, 5, 1, 1), set(5, 5, 9, 9), set(1, 1, 5, 5, 9, 9)},
		{set(1, 4, 5, 9), set(2, 6, 9, 9), set(1, 9)},
		{set(3, 3, 3, 3), set(3, 3), set(3, 3)},
		{set(8, 7, 4, 9, 3, 2, 2, 4), set(2, 6, 9, 9), set(2, 9)},
		{set(least, least, most, most), nil, set(least, least, most, most)},
	} {
		hold(t, inside, x.parent, x.want)
		hold(t, api.Con{}, x.parent, x.all)
		hold(t, meet(), x.parent, x.all)
		hold(t, except(), x.parent, x.all)
		hold(t, except(api.Con{}, except(api.Con{}, inside)), x.parent, x.want)
		hold(t, union(), x.parent, nil)
		hold(t, span(5, 4), x.parent, nil)
		hold(t, con(9), x.parent, nil)
	}
}

// P12.1: constraints as they are written in texts, the chapter's among them.
func TestTexts(t *testing.T) {
	for _, x := range []struct {
		text       string
		all, sizes []api.Range
	}{
		{"(0..7 | 9) EXCEPT 3", set(0, 2, 4, 7, 9, 9), set(0, 2, 4, 7, 9, 9)},
		{"MIN..5", set(least, 5), set(0, 5)},
		{"MIN..MAX", set(least, most), set(0, most)},
		{"-5..MAX", set(-5, most), set(0, most)},
		{"5..4", nil, nil},
		{"-2..-1", set(-2, -1), nil},
		{"1 | 2 | 3 | 5", set(1, 3, 5, 5), set(1, 3, 5, 5)},
		{"0..9 ^ 5..20 ^ MIN..7", set(5, 7), set(5, 7)},
		{"1..9 EXCEPT (3 | 5 | 7..20)", set(1, 2, 4, 4, 6, 6), set(1, 2, 4, 4, 6, 6)},
		{"(1..9 EXCEPT 3) ^ (3..5 | 8)", set(4, 5, 8, 8), set(4, 5, 8, 8)},
		{"1 ^ 2", nil, nil},
		{"MIN..MAX EXCEPT -1..1", set(least, -2, 2, most), set(2, most)},
	} {
		for _, y := range []struct {
			text string
			want []api.Range
		}{
			{"INTEGER (" + x.text + ")", x.all}, {"INTEGER (" + x.text + ", ...)", x.all},
			{"BIT STRING (SIZE (" + x.text + "))", x.sizes}, {"OCTET STRING (SIZE (" + x.text + ", ...))", x.sizes},
			{"IA5String (FROM (\"ab\")) (SIZE (" + x.text + "))", x.sizes}, {"SEQUENCE (SIZE (" + x.text + ")) OF NULL", x.sizes},
		} {
			got, _, e := parse.Type([]byte(y.text))
			if e != api.OK {
				t.Fatal(y.text, e)
			}
			holdOf(t, got, y.want, true)
			want := api.OK
			if len(y.want) == 0 {
				want = api.ErrEmpty
			}
			holdCheck(t, got, want)
		}
	}
}
