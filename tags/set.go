package tags

import (
	"maps"
	"slices"

	"spandrel/api"
)

const (
	// none is less than all tags, and stands for none of them.
	none = 0
	// firstAutomatic is the least automatic tag. A type that has other automatic
	// tags has this one, too, so that it stands for all of them in a set.
	firstAutomatic = 1000
)

// set is a set of tags.
type set map[int]struct{}

// add adds the tags of another set to a set, and returns how many of them were
// not in it.
func (s set) add(tags set) int {
	before := len(s)
	maps.Copy(s, tags)
	return len(s) - before
}

// sorted returns the tags in a set in increasing order.
func (s set) sorted() []int {
	return slices.Sorted(maps.Keys(s))
}

// least returns the least tag in a set, or none.
func (s set) least() int {
	if len(s) == 0 {
		return none
	}
	return s.sorted()[0]
}

// universal returns the set of the universal tag of a Kind, which is empty if the
// Kind has none.
func universal(kind int) set {
	switch kind {
	case api.Bool:
		return set{1: {}}
	case api.Int:
		return set{2: {}}
	case api.Bits:
		return set{3: {}}
	case api.Octets:
		return set{4: {}}
	case api.Null:
		return set{5: {}}
	case api.Enum:
		return set{10: {}}
	case api.Seq, api.SeqOf:
		return set{16: {}}
	case api.Str:
		return set{22: {}}
	}
	return nil
}
