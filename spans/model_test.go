package spans_test

import (
	"math"
	"math/big"
	"regexp"
	"slices"
	"strconv"
	"strings"
	"testing"

	"spandrel/api"
)

// This file says what the chapter says by asking for single integers whether they
// are in a set, so that it has nothing in common with the package that it tests.

// forms is a range in a text: its two ends.
var forms = regexp.MustCompile(`^\(([^ ()]+) ([^ ()]+)\)`)

// end is an integer of a text: a number, or so many more than min, or so many
// less than max.
func end(t *testing.T, text string) int {
	t.Helper()
	from := 0
	if rest, ok := strings.CutPrefix(text, "min"); ok {
		from, text = math.MinInt, "0"+rest
	} else if rest, ok := strings.CutPrefix(text, "max"); ok {
		from, text = math.MaxInt, "0"+rest
	}
	text = strings.TrimPrefix(strings.TrimPrefix(text, "0+"), "0-")
	n, err := strconv.Atoi(text)
	if err != nil {
		t.Fatal(text, err)
	}
	if from == math.MaxInt {
		n = -n
	}
	return from + n
}

// set is the list of a text such as "(1 3) (min -5) (max-1 max)".
func set(t *testing.T, text string) []api.Range {
	t.Helper()
	var l []api.Range
	for rest := strings.TrimSpace(text); rest != ""; rest = strings.TrimSpace(rest) {
		m := forms.FindStringSubmatch(rest)
		if m == nil {
			t.Fatal(text)
		}
		l = append(l, api.Range{Lo: end(t, m[1]), Hi: end(t, m[2])})
		rest = rest[len(m[0]):]
	}
	return l
}

// modelHas tells whether an integer is in at least one range.
func modelHas(s []api.Range, n int) bool {
	for _, r := range s {
		if r.Lo <= n && n <= r.Hi {
			return true
		}
	}
	return false
}

// points are all integers that are in other sets than the integer ahead of them,
// in order, and the least integer of all.
func points(sets ...[]api.Range) []int {
	l := []int{math.MinInt}
	for _, s := range sets {
		for _, r := range s {
			l = append(l, r.Lo)
			if r.Hi < math.MaxInt {
				l = append(l, r.Hi+1)
			}
		}
	}
	slices.Sort(l)
	return slices.Compact(l)
}

// modelSet is the normalized set of those integers that are kept, by whether they
// are in each of two sets.
func modelSet(a, b []api.Range, keep func(inA, inB bool) bool) []api.Range {
	var l []api.Range
	joins := false
	from := points(a, b)
	for k, n := range from {
		to := math.MaxInt
		if k+1 < len(from) {
			to = from[k+1] - 1
		}
		kept := keep(modelHas(a, n), modelHas(b, n))
		if kept && joins {
			l[len(l)-1].Hi = to
		} else if kept {
			l = append(l, api.Range{Lo: n, Hi: to})
		}
		joins = kept
	}
	return l
}

// modelNorm is the normalized set of the integers of another.
func modelNorm(s []api.Range) []api.Range {
	return modelSet(s, nil, func(in, _ bool) bool { return in })
}

// modelRight tells whether a set is normalized, by numbers of any size.
func modelRight(s []api.Range) bool {
	for k, r := range s {
		if r.Lo > r.Hi {
			return false
		}
		if k == 0 {
			continue
		}
		between := big.NewInt(int64(s[k-1].Hi))
		between.Add(between, big.NewInt(1))
		if between.Cmp(big.NewInt(int64(r.Lo))) >= 0 {
			return false
		}
	}
	return true
}
