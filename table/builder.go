package table

import (
	"slices"

	"spandrel/api"
	"spandrel/bounds"
)

// builder creates rows.
type builder struct {
	entries []api.Entry
	// places tells where the first entry with each full name is.
	places map[string]int
	// recorded tells the row for which each full name stands that has been used.
	recorded map[string]int
	rows     []api.Desc
	choices  []choice
}

// choice is a row of Kind Choice, of which the Order is not known yet.
type choice struct {
	row   int
	auto  bool
	parts []api.Part
}

// newBuilder returns a builder without rows.
func newBuilder(l []api.Entry) *builder {
	b := &builder{entries: l, places: make(map[string]int, len(l)), recorded: map[string]int{}}
	// What scope.Find finds, which goes through all entries anew for each name;
	// here, very many names may be looked for. From the last entry on, so that the
	// first one of a name stays.
	for place, e := range slices.Backward(l) {
		b.places[e.Module+"."+e.Name] = place
	}
	return b
}

// refer returns the row for which a Ref to a full name stands. When it is used for
// the first time, it is created, with the rows of the types in it.
func (b *builder) refer(name string) (int, api.Errno) {
	names, e := b.follow(name)
	if e != api.OK {
		return 0, e
	}
	last := names[len(names)-1]
	row, isRecorded := b.recorded[last]
	if !isRecorded {
		row = len(b.rows)
	}
	// Before the rows are created, so that they may refer to the first of them.
	for _, passed := range names {
		b.recorded[passed] = row
	}
	if isRecorded {
		return row, api.OK
	}
	entry := b.entries[b.places[last]]
	return b.add(entry.T, entry.Auto)
}

// follow returns the full names to which a Ref to one of them leads, up to one
// that is recorded, or whose type is no Ref.
func (b *builder) follow(name string) ([]string, api.Errno) {
	var names []string
	// With one name more than there are entries, one of them is there twice.
	for range len(b.entries) + 1 {
		place, isThere := b.places[name]
		if !isThere {
			return nil, api.ErrName
		}
		names = append(names, name)
		_, isRecorded := b.recorded[name]
		t := b.entries[place].T
		if isRecorded || t.Kind != api.Ref {
			return names, api.OK
		}
		name = t.Name
	}
	return nil, api.ErrDeep
}

// add creates the rows of a type, where auto is the Auto of the entry in which it
// stands, and returns the place of its own row.
func (b *builder) add(t api.Type, auto bool) (int, api.Errno) {
	if t.Kind == api.Ref {
		return b.refer(t.Name)
	}
	if len(b.rows) == mostRows || !isLowered(t) {
		return 0, api.ErrArg
	}
	row := len(b.rows)
	b.rows = append(b.rows, alone(t))
	if t.Kind == api.Choice {
		b.choices = append(b.choices, choice{row, auto, t.Parts})
	}
	return row, b.addWithin(row, t, auto)
}

// addWithin creates the rows of the types in a type that has a row, and lets this
// row refer to them.
func (b *builder) addWithin(row int, t api.Type, auto bool) api.Errno {
	parts, e := b.addParts(t.Parts, auto)
	if e != api.OK {
		return e
	}
	adds, e := b.addParts(t.Adds, auto)
	if e != api.OK {
		return e
	}
	elem := 0
	if t.Kind == api.SeqOf {
		elem, e = b.add(t.Elem[0], auto)
	}
	r := &b.rows[row]
	r.Parts, r.Adds, r.Elem = parts, adds, elem
	return e
}

// addParts creates the rows of the types of parts, and returns the fields that
// refer to them.
func (b *builder) addParts(l []api.Part, auto bool) ([]api.Field, api.Errno) {
	var fields []api.Field
	for _, p := range l {
		row, e := b.add(p.T, auto)
		if e != api.OK {
			return nil, e
		}
		fields = append(fields, api.Field{Name: p.Name, T: row, Opt: p.Opt, Def: owned(p.Def)})
	}
	return fields, api.OK
}

// isLowered tells whether a type that is no Ref can have a row.
func isLowered(t api.Type) bool {
	return isKind(t.Kind) && (t.Kind != api.SeqOf || len(t.Elem) == 1)
}

// alone returns the row of a type without what refers to other rows, or depends on
// other types.
func alone(t api.Type) api.Desc {
	// Without a set, there are no ends: then all of them are zero.
	set, _ := bounds.Of(t)
	lo, hi, _ := bounds.Ends(set)
	return api.Desc{
		Kind: t.Kind, Ext: t.Ext, Set: set, Lo: lo, Hi: hi, From: t.From,
		Names: slices.Clone(t.Names), More: slices.Clone(t.More),
	}
}

// owned returns a copy of values that shares no list with them.
func owned(l []api.Value) []api.Value {
	var copied []api.Value
	for _, v := range l {
		v.Names, v.L = slices.Clone(v.Names), owned(v.L)
		copied = append(copied, v)
	}
	return copied
}
