package shape

import (
	"slices"

	"spandrel/api"
)

// Same tells whether two types have the same in all fields.
func Same(a, b api.Type) bool {
	return a.Kind == b.Kind && a.Name == b.Name && a.Ext == b.Ext && a.From == b.From &&
		sameCon(a.Con, b.Con) &&
		slices.Equal(a.Names, b.Names) &&
		slices.Equal(a.More, b.More) &&
		slices.EqualFunc(a.Parts, b.Parts, samePart) &&
		slices.EqualFunc(a.Adds, b.Adds, samePart) &&
		slices.EqualFunc(a.Elem, b.Elem, Same)
}

// sameCon is Same for constraints.
func sameCon(a, b api.Con) bool {
	return a.Op == b.Op && a.Lo == b.Lo && a.Hi == b.Hi && a.Low == b.Low && a.High == b.High &&
		slices.EqualFunc(a.L, b.L, sameCon)
}

// samePart is Same for parts.
func samePart(a, b api.Part) bool {
	return a.Name == b.Name && a.Opt == b.Opt && slices.EqualFunc(a.Def, b.Def, sameValue) && Same(a.T, b.T)
}

// sameValue is Same for values.
func sameValue(a, b api.Value) bool {
	return a.Kind == b.Kind && a.N == b.N && a.S == b.S &&
		slices.Equal(a.Names, b.Names) && slices.EqualFunc(a.L, b.L, sameValue)
}
