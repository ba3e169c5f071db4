package enc

import (
	"math"
	"slices"

	"spandrel/api"
	"spandrel/length"
	"spandrel/open"
	"spandrel/stream"
	"spandrel/strings"
	"spandrel/whole"
)

const (
	// Up to this size, lists of a fixed size have no length.
	greatestFixed = 65535
	// Up to as many additions, their number is a small one.
	mostSmall = 64
)

// writer writes values of the rows of a table to a stream.
type writer struct {
	table
	to      *stream.Writer
	aligned bool
}

// put writes a value, which belongs to the row at a place.
func (w writer) put(at int, v api.Value) api.Errno {
	r := w.row(at)
	switch r.Kind {
	case api.Bool:
		w.bit(v.N == 1)
	case api.Int:
		return w.putInt(r, v.N)
	case api.Enum:
		return w.putItem(r, v.S)
	case api.Bits, api.Octets, api.Str:
		return w.putString(r, v.S)
	case api.Seq:
		return w.putParts(r, v)
	case api.SeqOf:
		return w.putList(r, v.L)
	case api.Choice:
		return w.putAlternative(r, v.S, v.L[0])
	}
	return api.OK
}

// bit writes a bit, which no stream refuses.
func (w writer) bit(is bool) {
	if is {
		w.to.Put(1, 1)
	} else {
		w.to.Put(0, 1)
	}
}

// keeps writes the extension bit of a number or size, if the row has one. It tells
// whether the bounds of the row hold for what is written.
func (w writer) keeps(r *api.Desc, n int) bool {
	if !r.Ext {
		return true
	}
	is := isIn(r.Set, n)
	w.bit(!is)
	return is
}

// sizes writes the extension bit of a size, if the row has one. It returns the
// bounds that hold for the size.
func (w writer) sizes(r *api.Desc, size int) (lo, hi int) {
	if w.keeps(r, size) {
		return r.Lo, upper(r)
	}
	return 0, -1
}

// putInt writes a number.
func (w writer) putInt(r *api.Desc, n int) api.Errno {
	switch {
	case !w.keeps(r, n) || r.Lo == math.MinInt:
		return open.PutAny(w.to, w.aligned, n)
	case r.Hi == math.MaxInt:
		return open.PutSemi(w.to, w.aligned, n, r.Lo)
	}
	return whole.Put(w.to, w.aligned, n, r.Lo, r.Hi)
}

// putItem writes which of the names of an enumeration a value is.
func (w writer) putItem(r *api.Desc, name string) api.Errno {
	k := slices.Index(r.Names, name)
	if r.Ext {
		w.bit(k < 0)
	}
	if k < 0 {
		return length.PutSmall(w.to, w.aligned, slices.Index(r.More, name))
	}
	return whole.Put(w.to, w.aligned, k, 0, len(r.Names)-1)
}

// putString writes bits, octets or characters.
func (w writer) putString(r *api.Desc, s string) api.Errno {
	lo, hi := w.sizes(r, len(s))
	switch r.Kind {
	case api.Bits:
		return strings.PutBits(w.to, w.aligned, s, lo, hi)
	case api.Octets:
		return strings.PutOctets(w.to, w.aligned, []byte(s), lo, hi)
	}
	return strings.PutText(w.to, w.aligned, s, r.From, lo, hi)
}

// putList writes the elements of a list, with the length of each fragment.
func (w writer) putList(r *api.Desc, l []api.Value) api.Errno {
	lo, hi := w.sizes(r, len(l))
	if lo == hi && hi <= greatestFixed {
		return w.putElements(r, l)
	}
	for more := true; more; {
		var count int
		var e api.Errno
		count, more, e = length.Put(w.to, w.aligned, len(l), lo, hi)
		if e != api.OK {
			return e
		}
		if e := w.putElements(r, l[:count]); e != api.OK {
			return e
		}
		// The bounds are those of the whole list, not of what is left.
		l, lo, hi = l[count:], 0, -1
	}
	return api.OK
}

// putElements writes elements of a list, one after the other.
func (w writer) putElements(r *api.Desc, l []api.Value) api.Errno {
	for _, v := range l {
		if e := w.put(r.Elem, v); e != api.OK {
			return e
		}
	}
	return api.OK
}

// putAlternative writes which alternative a value is, and its value.
func (w writer) putAlternative(r *api.Desc, name string, v api.Value) api.Errno {
	k := slices.IndexFunc(r.Parts, named(name))
	if r.Ext {
		w.bit(k < 0)
	}
	if k < 0 {
		k = slices.IndexFunc(r.Adds, named(name))
		if e := length.PutSmall(w.to, w.aligned, k); e != api.OK {
			return e
		}
		return w.putOpen(r.Adds[k], v)
	}
	if e := whole.Put(w.to, w.aligned, slices.Index(r.Order, k), 0, len(r.Parts)-1); e != api.OK {
		return e
	}
	return w.put(r.Parts[k].T, v)
}

// putOpen writes the separate encoding of an addition.
func (w writer) putOpen(p api.Field, v api.Value) api.Errno {
	b, e := w.encoding(w.aligned, p.T, v)
	if e != api.OK {
		return e
	}
	return open.PutOpen(w.to, w.aligned, b)
}

// putParts writes which parts of a value are encoded, and these.
func (w writer) putParts(r *api.Desc, v api.Value) api.Errno {
	parts, next := encoded(r.Parts, v.Names, v.L)
	adds, _ := encoded(r.Adds, v.Names[next:], v.L[next:])
	hasAdds := slices.ContainsFunc(adds, isEncoded)
	if r.Ext {
		w.bit(hasAdds)
	}
	for k, p := range r.Parts {
		if isFree(p) {
			w.bit(isEncoded(parts[k]))
		}
	}
	for k, p := range r.Parts {
		if !isEncoded(parts[k]) {
			continue
		}
		if e := w.put(p.T, *parts[k]); e != api.OK {
			return e
		}
	}
	if !hasAdds {
		return api.OK
	}
	return w.putAdds(r, adds)
}

// isEncoded tells whether a part is encoded, whose value is not nil then.
func isEncoded(v *api.Value) bool {
	return v != nil
}

// putAdds writes which additions are encoded, and these.
func (w writer) putAdds(r *api.Desc, adds []*api.Value) api.Errno {
	if e := w.putCount(len(adds)); e != api.OK {
		return e
	}
	for _, v := range adds {
		w.bit(isEncoded(v))
	}
	for k, p := range r.Adds {
		if !isEncoded(adds[k]) {
			continue
		}
		if e := w.putOpen(p, *adds[k]); e != api.OK {
			return e
		}
	}
	return api.OK
}

// putCount writes how many additions a type has.
func (w writer) putCount(n int) api.Errno {
	if n <= mostSmall {
		return length.PutSmall(w.to, w.aligned, n-1)
	}
	w.bit(true)
	_, _, e := length.Put(w.to, w.aligned, n, 0, -1)
	return e
}
