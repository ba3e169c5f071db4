package parse_test

import (
	"testing"

	"spandrel/api"
)

// span is a constraint between two numbers, one a number; fromMin and toMax are
// those with one end only.
func span(lo, hi int) api.Con { return api.Con{Op: api.Span, Lo: lo, Hi: hi} }
func one(n int) api.Con       { return span(n, n) }
func fromMin(hi int) api.Con  { return api.Con{Op: api.Span, Low: true, Hi: hi} }
func toMax(lo int) api.Con    { return api.Con{Op: api.Span, Lo: lo, High: true} }

// union, meet and except are constraints that consist of others.
func union(l ...api.Con) api.Con  { return api.Con{Op: api.Union, L: l} }
func meet(l ...api.Con) api.Con   { return api.Con{Op: api.Meet, L: l} }
func except(l ...api.Con) api.Con { return api.Con{Op: api.Except, L: l} }

// checkCon holds what is read of a constraint against it, in each type that has
// one, with and without "...".
func checkCon(t *testing.T, s string, c api.Con) {
	t.Helper()
	for _, x := range []struct {
		ahead, behind string
		t             api.Type
	}{
		{"INTEGER (", ")", num},
		{"BIT STRING (SIZE (", "))", api.Type{Kind: api.Bits}},
		{"OCTET STRING (SIZE (", "))", api.Type{Kind: api.Octets}},
		{"IA5String (SIZE (", "))", text},
		{`IA5String (FROM ("ab")) (SIZE (`, "))", from("ab")},
		{"SEQUENCE (SIZE (", ")) OF T", list(ref("T"))},
	} {
		checkType(t, x.ahead+s+x.behind, bound(x.t, c))
		checkType(t, x.ahead+s+", ..."+x.behind, wide(x.t, c))
	}
}

// P9.1: one side, with each end.
func TestSpans(t *testing.T) {
	for _, x := range []struct {
		s string
		c api.Con
	}{
		{"0", one(0)}, {"5", one(5)}, {"-5", one(-5)}, {"9223372036854775807", one(1<<63 - 1)}, {"-9223372036854775807", one(-1<<63 + 1)},
		{"1..2", span(1, 2)}, {"5..5", one(5)}, {"5..4", span(5, 4)}, {"-3..-1", span(-3, -1)}, {"0..0", one(0)}, {"0 .. 1", span(0, 1)}, {"1..--x--2", span(1, 2)},
		{"-9223372036854775807..9223372036854775807", span(-1<<63+1, 1<<63-1)},
		{"MIN..5", fromMin(5)}, {"MIN..0", fromMin(0)}, {"MIN .. -5", fromMin(-5)}, {"5..MAX", toMax(5)}, {"0..MAX", toMax(0)}, {"-5..MAX", toMax(-5)},
		{"MIN..MAX", api.Con{Op: api.Span, Low: true, High: true}},
	} {
		checkCon(t, x.s, x.c)
		// A con in parentheses that consists of a single side is this side.
		checkCon(t, "("+x.s+")", x.c)
		checkCon(t, "((("+x.s+")))", x.c)
		checkCon(t, x.s+" | "+x.s, union(x.c, x.c))
		checkCon(t, "7 ^ ("+x.s+") ^ 8..MAX", meet(one(7), x.c, toMax(8)))
		checkCon(t, x.s+" EXCEPT (("+x.s+"))", except(x.c, x.c))
	}
}

// P9.1: two sides and more, and parentheses inside each other.
func TestSides(t *testing.T) {
	any := api.Con{Op: api.Span, Low: true, High: true}
	for _, x := range []struct {
		s string
		c api.Con
	}{
		{"1|2", union(one(1), one(2))}, {"1 | 2 | 3", union(one(1), one(2), one(3))}, {"0..7 | 9", union(span(0, 7), one(9))}, {"4 | 3 | 2 | 1 | 0", union(one(4), one(3), one(2), one(1), one(0))},
		{"1^2", meet(one(1), one(2))}, {"1 ^ 2..MAX ^ 3", meet(one(1), toMax(2), one(3))}, {"MIN..MAX ^ MIN..1 ^ 2 ^ 3", meet(any, fromMin(1), one(2), one(3))},
		{"1 EXCEPT 2", except(one(1), one(2))}, {"MIN..5 EXCEPT 3..4", except(fromMin(5), span(3, 4))}, {"MIN..MAX EXCEPT MIN..MAX", except(any, any)},
		{"(1 | 2)", union(one(1), one(2))}, {"((1 ^ 2))", meet(one(1), one(2))}, {"(((1)) EXCEPT (((2))))", except(one(1), one(2))},
		{"(1 | 2) | 3", union(union(one(1), one(2)), one(3))}, {"1 | (2 | 3)", union(one(1), union(one(2), one(3)))}, {"(1 | 2) | (3 | 4)", union(union(one(1), one(2)), union(one(3), one(4)))},
		{"(1 ^ 2) ^ 3", meet(meet(one(1), one(2)), one(3))}, {"1 ^ (2 ^ 3) ^ 4", meet(one(1), meet(one(2), one(3)), one(4))},
		{"1 | (2 ^ 3)", union(one(1), meet(one(2), one(3)))}, {"(1 | 2) ^ 3", meet(union(one(1), one(2)), one(3))}, {"1 ^ (2 EXCEPT 3)", meet(one(1), except(one(2), one(3)))},
		{"(1 EXCEPT 2) EXCEPT 3", except(except(one(1), one(2)), one(3))}, {"1 EXCEPT (2 EXCEPT 3)", except(one(1), except(one(2), one(3)))}, {"(1 | 2) EXCEPT (3 ^ 4)", except(union(one(1), one(2)), meet(one(3), one(4)))},
		{"(1 | 2 | 3) EXCEPT ((2))", except(union(one(1), one(2), one(3)), one(2))},
		{"((1 | (2 ^ (3 EXCEPT (4 | (5))))))", union(one(1), meet(one(2), except(one(3), union(one(4), one(5)))))},
		{"((1 | 2)) | ((3))", union(union(one(1), one(2)), one(3))},
	} {
		checkCon(t, x.s, x.c)
		checkCon(t, "("+x.s+")", x.c)
		checkCon(t, "(("+x.s+")) EXCEPT 0", except(x.c, one(0)))
		checkCon(t, "0 | ("+x.s+") | 0", union(one(0), x.c, one(0)))
	}
}

// P9.1: a constraint may have very many sides.
func TestManySides(t *testing.T) {
	for _, n := range []int{256, 257, 300, 5000} {
		s, l := "0", []api.Con{one(0)}
		for range n - 1 {
			s, l = s+"|1", append(l, one(1))
		}
		checkType(t, "INTEGER ("+s+")", bound(num, union(l...)))
	}
}
