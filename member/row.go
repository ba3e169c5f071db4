package member

import "spandrel/api"

// row is a row of a table that is valid, at whose other rows its parts and its
// elements are found.
type row struct {
	*api.Desc
	table []api.Desc
}

// rowOf returns the row of a table at a place.
func rowOf(d []api.Desc, at int) row {
	return row{&d[at], d}
}

// elem returns the row of the elements.
func (r row) elem() row {
	return rowOf(r.table, r.Elem)
}

// of returns the row of a part.
func (r row) of(p api.Field) row {
	return rowOf(r.table, p.T)
}

// count returns how many Parts and Adds there are.
func (r row) count() int {
	return len(r.Parts) + len(r.Adds)
}

// part returns one of the Parts, or of the Adds, which follow them.
func (r row) part(k int) api.Field {
	if k < len(r.Parts) {
		return r.Parts[k]
	}
	return r.Adds[k-len(r.Parts)]
}

// named returns the part with a name, if there is one.
func (r row) named(name string) (api.Field, bool) {
	for k := range r.count() {
		if p := r.part(k); p.Name == name {
			return p, true
		}
	}
	return api.Field{}, false
}

// areDefaultsRight tells whether each Def is a value of its part that may be a
// default.
func (r row) areDefaultsRight() bool {
	for k := range r.count() {
		p := r.part(k)
		for _, v := range p.Def {
			if !isDefault(v.Kind) || !r.of(p).has(v) {
				return false
			}
		}
	}
	return true
}

// isDefault tells whether values of a Kind may be defaults.
func isDefault(kind int) bool {
	return kind == api.Bool || kind == api.Int || kind == api.Enum || kind == api.Str
}
