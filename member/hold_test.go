package member_test

import (
	"reflect"
	"slices"
	"strings"
	"testing"

	"spandrel/api"
	"spandrel/member"
)

// arguments are those of Check and Canon.
type arguments struct {
	D []api.Desc
	V api.Value
}

// pair is the arguments of Same.
type pair struct{ A, B api.Value }

// isSame tells whether two things are the same, be lists without elements nil or
// not.
func isSame(a, b any) bool { return reflect.DeepEqual(opened(guarded(a)), opened(guarded(b))) }

// holdRight holds what Right answers, twice, and that it does not change the table.
func holdRight(t *testing.T, d []api.Desc, want bool) {
	t.Helper()
	if got := modelRight(d); got != want {
		t.Fatalf("the model says %v of %s", got, shown(d))
	}
	given := guarded(d)
	before := opened(given)
	for range 2 {
		if got := member.Right(given); got != want {
			t.Fatalf("%v for %s", got, shown(d))
		}
	}
	if !reflect.DeepEqual(opened(given), before) {
		t.Fatalf("%s has become %s", shown(before), shown(given))
	}
}

// hold holds what Check and Canon answer against the model, twice, that they change
// no argument and share no list with one, and P15.5. It tells the error, and what
// Canon answers.
func hold(t *testing.T, d []api.Desc, v api.Value) (api.Value, api.Errno) {
	t.Helper()
	want := modelCheck(d, v)
	var whole api.Value
	if want == api.OK {
		whole = modelCanon(d, 0, v)
	}
	given := guarded(arguments{d, v})
	before := opened(given)
	var c api.Value
	for range 2 {
		if e := member.Check(given.D, given.V); e != want {
			t.Fatalf("%s of %s: %d, not %d", told(v), shown(d), e, want)
		}
		var e api.Errno
		c, e = member.Canon(given.D, given.V)
		if e != want || !isSame(c, whole) {
			t.Fatalf("%s of %s: %s, %d, not %s, %d", told(v), shown(d), told(c), e, told(whole), want)
		}
		if !reflect.DeepEqual(opened(given), before) {
			t.Fatalf("%s of %s: an argument is changed", told(v), shown(d))
		}
		holdApart(t, c, given)
	}
	if want == api.OK {
		holdWhole(t, d, c)
	}
	return c, want
}

// holdWhole holds P15.5 of what Canon answers.
func holdWhole(t *testing.T, d []api.Desc, c api.Value) {
	t.Helper()
	if e := member.Check(d, c); e != api.OK {
		t.Fatalf("%s of %s: %d", told(c), shown(d), e)
	}
	again, e := member.Canon(d, c)
	if e != api.OK || !member.Same(again, c) || !isSame(again, c) {
		t.Fatalf("%s of %s becomes %s, %d", told(c), shown(d), told(again), e)
	}
}

// belongs holds that values belong to a table, and that there is nothing to
// complete in them.
func belongs(t *testing.T, d []api.Desc, l ...api.Value) {
	t.Helper()
	for _, v := range l {
		completed(t, d, v, v)
	}
}

// completed holds that a value belongs to a table, and what Canon makes of it.
func completed(t *testing.T, d []api.Desc, v, want api.Value) {
	t.Helper()
	if c, e := hold(t, d, v); e != api.OK || !isSame(c, want) {
		t.Errorf("%s of %s: %s, %d, not %s", told(v), shown(d), told(c), e, told(want))
	}
}

// refused holds that a value does not belong to a table, and which conditions it
// breaks.
func refused(t *testing.T, d []api.Desc, v api.Value, conditions ...string) {
	t.Helper()
	slices.Sort(conditions)
	if got := broken(d, 0, v); !slices.Equal(got, conditions) {
		t.Errorf("%s of %s breaks %s, not %s", told(v), shown(d), strings.Join(got, ", "), strings.Join(conditions, ", "))
	}
	fails(t, d, v, api.ErrConstraint)
}

// fails holds the error of a value, beside which there is no other.
func fails(t *testing.T, d []api.Desc, v api.Value, want api.Errno) {
	t.Helper()
	if c, e := hold(t, d, v); e != want || !reflect.DeepEqual(c, api.Value{}) {
		t.Errorf("%s of %s: %s, %d, not %d", told(v), shown(d), told(c), e, want)
	}
}

// holdSame holds what Same answers, both ways round, and that it changes nothing.
func holdSame(t *testing.T, a, b api.Value, want bool) {
	t.Helper()
	if (told(a) == told(b)) != want || isSame(a, b) != want {
		t.Fatalf("%s and %s: not %v", told(a), told(b), want)
	}
	given := guarded(pair{a, b})
	before := opened(given)
	for range 2 {
		if member.Same(given.A, given.B) != want || member.Same(given.B, given.A) != want {
			t.Fatalf("%s and %s: %v", told(a), told(b), !want)
		}
		if !member.Same(given.A, given.A) || !member.Same(a, given.A) {
			t.Fatalf("%s is not the same as itself", told(a))
		}
	}
	if !reflect.DeepEqual(opened(given), before) {
		t.Fatalf("%s and %s: an argument is changed", told(a), told(b))
	}
}
