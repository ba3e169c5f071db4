package scope

import "spandrel/api"

// ownCon is a copy of a constraint that shares no list with it.
func ownCon(c api.Con) api.Con {
	c.L = each(c.L, ownCon)
	return c
}

// ownDefault is ownCon for the default of a part, which has no elements in its
// lists.
func ownDefault(v api.Value) api.Value {
	return api.Value{Kind: v.Kind, N: v.N, S: v.S}
}

// each is a new list of what of makes of each element.
func each[E any](l []E, of func(E) E) []E {
	var made []E
	for _, e := range l {
		made = append(made, of(e))
	}
	return made
}
