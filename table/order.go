package table

import (
	"spandrel/api"
	"spandrel/tags"
)

// alternative tells of which row something is a part, and which one.
type alternative struct {
	row, index int
}

// order gives an Order to each Choice whose entry has this Auto.
func (b *builder) order(auto bool) {
	// tags.Order goes anew through all types that a Choice uses, and many of them
	// may use the same ones. Therefore it orders the parts of all of them at once:
	// those of each one are then in the same order as without the others.
	all := api.Type{Kind: api.Choice}
	var from []alternative
	for _, c := range b.choices {
		if c.auto != auto {
			continue
		}
		all.Parts = append(all.Parts, c.parts...)
		for index := range c.parts {
			from = append(from, alternative{c.row, index})
		}
	}
	for _, k := range tags.Order(b.entries, auto, all) {
		r := &b.rows[from[k].row]
		r.Order = append(r.Order, from[k].index)
	}
}
