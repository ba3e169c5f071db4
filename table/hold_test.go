package table_test

import (
	"reflect"
	"slices"
	"strings"
	"testing"

	"spandrel/api"
	"spandrel/table"
)

// holdLower holds what Lower answers against the model, twice, and that it changes
// no argument, and shares no list with one. It tells what Lower answers.
func holdLower(t *testing.T, l []api.Entry, name string) ([]api.Desc, api.Errno) {
	t.Helper()
	want, wantError := modelLower(l, name)
	given := guarded(l)
	before := opened(given)
	var d []api.Desc
	var e api.Errno
	for range 2 {
		d, e = table.Lower(given, name)
		if e != wantError || !reflect.DeepEqual(opened(guarded(d)), opened(guarded(want))) {
			t.Fatalf("%s of %s is\n%s\n%d, not\n%s\n%d", name, shown(l), told(d), e, told(want), wantError)
		}
		if !reflect.DeepEqual(opened(given), before) {
			t.Fatalf("%s of %s: an argument is changed", name, shown(l))
		}
		holdApart(t, d, given)
	}
	return d, e
}

// lowered holds the table of a name, as a text.
func lowered(t *testing.T, l []api.Entry, name, want string) {
	t.Helper()
	d, e := holdLower(t, l, name)
	if got := told(d); got != lines(want) || e != api.OK {
		t.Errorf("%s of %s is\n%s\n%d, not\n%s", name, shown(l), got, e, lines(want))
	}
}

// refused holds the error of a name, beside which there is no table.
func refused(t *testing.T, l []api.Entry, name string, want api.Errno) {
	t.Helper()
	if d, e := holdLower(t, l, name); e != want || d != nil {
		t.Errorf("%s of %s is\n%s\n%d, not %d", name, shown(l), told(d), e, want)
	}
}

// holdRight holds what Right answers, twice, and that it changes nothing in the
// table. The table breaks the conditions that are named here.
func holdRight(t *testing.T, d []api.Desc, names ...string) {
	t.Helper()
	if model := broken(d); !slices.Equal(model, names) {
		t.Fatalf("%s\nbreaks %s, not %s", shown(told(d)), strings.Join(model, ", "), strings.Join(names, ", "))
	}
	given := guarded(d)
	before := opened(given)
	for range 2 {
		if got := table.Right(given); got != (len(names) == 0) {
			t.Fatalf("%s\nbreaks %s: %v", shown(told(d)), strings.Join(names, ", "), got)
		}
	}
	if !reflect.DeepEqual(opened(given), before) {
		t.Fatalf("%s has become %s", shown(before), shown(given))
	}
}
