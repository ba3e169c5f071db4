package scope

import (
	"slices"

	"spandrel/api"
)

// distinct tells whether the names of all elements of some lists, as name tells
// them, are different.
func distinct[E any](name func(E) string, lists ...[]E) bool {
	var names []string
	for _, l := range lists {
		for _, e := range l {
			names = append(names, name(e))
		}
	}
	slices.Sort(names)
	return len(slices.Compact(names)) == len(names)
}

// nameOfModule is the name of a module.
func nameOfModule(m api.Module) string {
	return m.Name
}

// nameOfPart is the name of a component, or of an alternative.
func nameOfPart(p api.Part) string {
	return p.Name
}

// itself is the name of what is a name, as an item of an enumeration is.
func itself(name string) string {
	return name
}
