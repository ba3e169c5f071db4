package spans_test

import (
	"fmt"
	"math"
	"slices"
	"testing"

	"spandrel/api"
	"spandrel/spans"
)

// call is a function that combines two sets, and which integers it keeps.
type call struct {
	name string
	of   func(a, b []api.Range) []api.Range
	keep func(inA, inB bool) bool
}

// calls are the functions that combine two sets.
func calls() []call {
	return []call{
		{"Union", spans.Union, func(inA, inB bool) bool { return inA || inB }},
		{"Meet", spans.Meet, func(inA, inB bool) bool { return inA && inB }},
		{"Minus", spans.Minus, func(inA, inB bool) bool { return inA && !inB }},
	}
}

// marks are what stands behind a list, in the same room.
var marks = []api.Range{{Lo: 77, Hi: 78}, {Lo: 79, Hi: 11}, {Lo: math.MinInt, Hi: 12}, {Lo: 13, Hi: math.MaxInt}}

// guarded is a copy of a list, with marks behind it.
func guarded(s []api.Range) []api.Range {
	return slices.Concat(s, marks)[:len(s)]
}

// isIntact tells whether a guarded list is what it was, and so are the marks.
func isIntact(l, s []api.Range) bool {
	return slices.Equal(l, s) && slices.Equal(l[len(l):len(l)+len(marks)], marks)
}

// spoil fills a list, and the room behind it, with what it was not.
func spoil(l []api.Range) {
	l = l[:cap(l)]
	for k := range l {
		l[k] = api.Range{Lo: 1000 + k, Hi: 2000 - k}
	}
}

// shown is a text that tells what some lists are.
func shown(lists ...[]api.Range) string {
	s := fmt.Sprint(lists)
	return s[:min(len(s), 3000)]
}

// holdNew holds what a function answers for lists, that it changes none of them,
// and that its answer shares nothing with them, nor with the next answer.
func holdNew(t *testing.T, name string, f func(l [][]api.Range) []api.Range, want []api.Range, lists ...[]api.Range) {
	t.Helper()
	var l [][]api.Range
	for _, s := range lists {
		l = append(l, guarded(s))
	}
	for range 2 {
		got := f(l)
		if !slices.Equal(got, want) {
			t.Fatalf("%s of %s is %s, not %s", name, shown(lists...), shown(got), shown(want))
		}
		spoil(got)
		for k := range l {
			if !isIntact(l[k], lists[k]) {
				t.Fatalf("%s of %s has changed a list, or shares it", name, shown(lists...))
			}
		}
	}
}

// holdOne holds all that is answered for a single set against the model.
func holdOne(t *testing.T, s []api.Range) {
	t.Helper()
	l := guarded(s)
	right := spans.Right(l)
	if right != modelRight(s) || !isIntact(l, s) {
		t.Fatalf("Right of %s is %v", shown(s), right)
	}
	want := modelNorm(s)
	holdNew(t, "Norm", func(l [][]api.Range) []api.Range { return spans.Norm(l[0]) }, want, s)
	if !spans.Right(want) || right != slices.Equal(s, want) {
		t.Fatalf("Right of %s is %v, and of %s it is not", shown(s), right, shown(want))
	}
	for _, n := range points(s) {
		for _, n := range []int{n, n - 1, n + 1} {
			if spans.Has(l, n) != modelHas(s, n) || spans.Has(want, n) != modelHas(s, n) || !isIntact(l, s) {
				t.Fatalf("Has of %s, %d is %v, and of %s it is %v", shown(s), n, spans.Has(l, n), shown(want), spans.Has(want, n))
			}
		}
	}
}

// holdTwo holds all that is answered for two sets against the model, and against
// P11.3.
func holdTwo(t *testing.T, a, b []api.Range) {
	t.Helper()
	for _, c := range calls() {
		want := modelSet(a, b, c.keep)
		holdNew(t, c.name, func(l [][]api.Range) []api.Range { return c.of(l[0], l[1]) }, want, a, b)
		if !spans.Right(want) {
			t.Fatalf("Right of %s is false", shown(want))
		}
	}
	if meet, minus := spans.Meet(a, b), spans.Minus(a, spans.Minus(a, b)); !slices.Equal(meet, minus) {
		t.Fatalf("%s: Meet is %s, by Minus it is %s", shown(a, b), shown(meet), shown(minus))
	}
}

// halves is a set in which each range that has two integers is cut into two.
func halves(s []api.Range) []api.Range {
	var l []api.Range
	for _, r := range s {
		if r.Lo < r.Hi {
			middle := r.Lo/2 + r.Hi/2
			middle = max(r.Lo, min(middle, r.Hi-1))
			l = append(l, api.Range{Lo: r.Lo, Hi: middle}, api.Range{Lo: middle + 1, Hi: r.Hi})
		} else {
			l = append(l, r)
		}
	}
	return l
}

// amongEmpty is a set with empty ranges around and between its own.
func amongEmpty(s []api.Range) []api.Range {
	empty := []api.Range{{Lo: 1, Hi: 0}, {Lo: math.MaxInt, Hi: math.MinInt}, {Lo: 6, Hi: -6}, {Lo: math.MaxInt, Hi: 0}, {Lo: 0, Hi: math.MinInt}}
	l := slices.Clone(empty)
	for k, r := range s {
		l = append(l, r, empty[k%len(empty)], api.Range{Lo: max(r.Lo, math.MinInt+1), Hi: max(r.Lo, math.MinInt+1) - 1})
	}
	return l
}

// written are other lists of the same integers.
func written(s []api.Range) [][]api.Range {
	turned := slices.Clone(s)
	slices.Reverse(turned)
	cut := halves(halves(s))
	slices.Reverse(cut)
	return [][]api.Range{s, turned, slices.Concat(s, s), cut, slices.Concat(halves(s), turned), amongEmpty(s), amongEmpty(cut)}
}
