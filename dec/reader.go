package dec

import (
	"math"

	"spandrel/api"
	"spandrel/length"
	"spandrel/open"
	"spandrel/stream"
	"spandrel/strings"
	"spandrel/whole"
)

const (
	// Up to this size, the length of a list is a number between its bounds.
	greatestNarrow = 65535
	// Only behind a fragment as great as this is there another one.
	greatestFragment = 65536
)

// reader reads values of the rows of a table from a stream. What is wrong in it
// ends decoding.
type reader struct {
	rows    []api.Desc
	from    *stream.Reader
	aligned bool
	// levels is how many values may still be nested, one within the other.
	levels int
}

// value reads a value of the row at a place.
func (r reader) value(at int) api.Value {
	x := &r.rows[at]
	v := api.Value{Kind: x.Kind}
	if isNested(x.Kind) {
		refuse(r.levels == 0, api.ErrDeep)
		r.levels--
	}
	switch x.Kind {
	case api.Bool:
		v.N = int(r.number(1))
	case api.Int:
		v.N = r.integer(x)
	case api.Enum:
		v.S = r.item(x)
	case api.Bits, api.Octets, api.Str:
		v.S = r.text(x)
	case api.Seq:
		v.Names, v.L = r.parts(x)
	case api.SeqOf:
		v.L = r.list(x)
	case api.Choice:
		v.S, v.L = r.alternative(x)
	}
	return v
}

// isNested tells whether values of a Kind have others within them.
func isNested(kind int) bool {
	return kind == api.Seq || kind == api.SeqOf || kind == api.Choice
}

// number reads a number of so many bits.
func (r reader) number(width int) uint64 {
	return must(r.from.Get(width))
}

// bit reads a bit, and tells whether it is 1.
func (r reader) bit() bool {
	return r.number(1) == 1
}

// isBeyond reads the extension bit of a row, if it has one. It tells whether what
// follows is beyond what the row has without extensions.
func (r reader) isBeyond(x *api.Desc) bool {
	return x.Ext && r.bit()
}

// length reads how many units follow, and whether another length follows these.
func (r reader) length(lo, hi int) (int, bool) {
	n, more, e := length.Get(r.from, r.aligned, lo, hi)
	refuse(e != api.OK, e)
	return n, more
}

// small reads a number that is small as a rule.
func (r reader) small() int {
	return must(length.GetSmall(r.from, r.aligned))
}

// index reads an index of a list of so many elements, of which there is at least
// one.
func (r reader) index(count int) int {
	return must(whole.Get(r.from, r.aligned, 0, count-1))
}

// integer reads a number.
func (r reader) integer(x *api.Desc) int {
	isBeyond := r.isBeyond(x)
	n := r.integerOf(x, isBeyond)
	admit(x, n, isBeyond)
	return n
}

// integerOf reads a number behind its extension bit.
func (r reader) integerOf(x *api.Desc, isBeyond bool) int {
	switch {
	case isBeyond || x.Lo == math.MinInt:
		return must(open.GetAny(r.from, r.aligned))
	case x.Hi == math.MaxInt:
		return must(open.GetSemi(r.from, r.aligned, x.Lo))
	}
	return must(whole.Get(r.from, r.aligned, x.Lo, x.Hi))
}

// item reads which of the names of an enumeration a value is.
func (r reader) item(x *api.Desc) string {
	if !r.isBeyond(x) {
		return x.Names[r.index(len(x.Names))]
	}
	k := r.small()
	refuse(k >= len(x.More), api.ErrUnknown)
	return x.More[k]
}

// text reads bits, octets or characters.
func (r reader) text(x *api.Desc) string {
	isBeyond := r.isBeyond(x)
	lo, hi := sizes(x, isBeyond)
	s := r.textBetween(x, lo, hi)
	admit(x, len(s), isBeyond)
	return s
}

// textBetween reads bits, octets or characters, whose number has bounds.
func (r reader) textBetween(x *api.Desc, lo, hi int) string {
	switch x.Kind {
	case api.Bits:
		return must(strings.GetBits(r.from, r.aligned, lo, hi))
	case api.Octets:
		return string(must(strings.GetOctets(r.from, r.aligned, lo, hi)))
	}
	return must(strings.GetText(r.from, r.aligned, x.From, lo, hi))
}

// list reads the elements of a list.
func (r reader) list(x *api.Desc) []api.Value {
	isBeyond := r.isBeyond(x)
	lo, hi := sizes(x, isBeyond)
	l := r.listBetween(x.Elem, lo, hi)
	admit(x, len(l), isBeyond)
	return l
}

// listBetween reads the elements of a list, whose number has bounds, with the
// length of each fragment. Whether all elements are as many as they may be, it does
// not ask.
func (r reader) listBetween(elem, lo, hi int) []api.Value {
	// Between narrow bounds, there is but one fragment; and if they are the same,
	// its length has no bits, so that a fixed size needs no form of its own.
	if hi > greatestNarrow || hi < 0 {
		// A fragment may have fewer elements than the list.
		lo, hi = 0, -1
	}
	// There may be far fewer elements than a length says: no room is made ahead.
	var l []api.Value
	for last, more := greatestFragment, true; more; {
		var count int
		count, more = r.length(lo, hi)
		refuse(more && last < greatestFragment, api.ErrForm)
		refuse(len(l)+count > api.MaxLength, api.ErrLarge)
		for range count {
			l = append(l, r.value(elem))
		}
		last = count
	}
	return l
}
