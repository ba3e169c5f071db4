package dec

import (
	"slices"

	"spandrel/api"
	"spandrel/member"
	"spandrel/open"
	"spandrel/stream"
)

const (
	// In so many bits, there is the number of additions less 1.
	smallWidth = 6
	// As many additions have a length.
	largeFrom = 1<<smallWidth + 1
)

// separate reads a value of the row at a place from octets that contain nothing
// else.
func (r reader) separate(at int, b []byte) api.Value {
	r.from = stream.New(b)
	v := r.value(at)
	e := r.from.End()
	refuse(e != api.OK, e)
	return v
}

// opened reads the octets of a separate encoding.
func (r reader) opened() []byte {
	return must(open.GetOpen(r.from, r.aligned))
}

// alternative reads which alternative a value is, and its value.
func (r reader) alternative(x *api.Desc) (string, []api.Value) {
	if !r.isBeyond(x) {
		p := x.Parts[x.Order[r.index(len(x.Parts))]]
		return p.Name, []api.Value{r.value(p.T)}
	}
	k := r.small()
	b := r.opened()
	refuse(k >= len(x.Adds), api.ErrUnknown)
	p := x.Adds[k]
	return p.Name, []api.Value{r.separate(p.T, b)}
}

// parts reads the names and the values of those parts that are encoded.
func (r reader) parts(x *api.Desc) ([]string, []api.Value) {
	hasAdds := r.isBeyond(x)
	isTold := make([]bool, len(x.Parts))
	for k, p := range x.Parts {
		isTold[k] = !isFree(p) || r.bit()
	}
	var v api.Value
	for k, p := range x.Parts {
		if isTold[k] {
			addPart(&v, p, r.value(p.T))
		}
	}
	if hasAdds {
		r.readAdds(x, &v)
	}
	return v.Names, v.L
}

// isFree tells whether values may lack a part.
func isFree(p api.Field) bool {
	return p.Opt || len(p.Def) > 0
}

// addPart adds a part that is encoded to a value.
func addPart(v *api.Value, p api.Field, x api.Value) {
	refuse(len(p.Def) > 0 && member.Same(x, p.Def[0]), api.ErrForm)
	v.Names, v.L = append(v.Names, p.Name), append(v.L, x)
}

// readAdds reads which additions are encoded, and adds them to a value, but for
// those that only newer types have.
func (r reader) readAdds(x *api.Desc, v *api.Value) {
	isTold := make([]bool, r.countAdds())
	for k := range isTold {
		isTold[k] = r.bit()
	}
	refuse(!slices.Contains(isTold, true), api.ErrForm)
	for k, is := range isTold {
		if !is {
			continue
		}
		b := r.opened()
		if k < len(x.Adds) {
			p := x.Adds[k]
			addPart(v, p, r.separate(p.T, b))
		}
	}
}

// countAdds reads how many additions the type has by which the value was written.
func (r reader) countAdds() int {
	if !r.bit() {
		return int(r.number(smallWidth)) + 1
	}
	n, more := r.length(0, -1)
	refuse(more || n < largeFrom, api.ErrForm)
	return n
}
