package enc

import (
	"math"
	"sort"

	"spandrel/api"
	"spandrel/member"
	"spandrel/stream"
)

// table is valid rows. Parts and elements refer to rows by their places.
type table []api.Desc

// row returns the row at a place.
func (t table) row(at int) *api.Desc {
	return &t[at]
}

// encoding returns the octets of a stream of its own that contains only a value,
// which belongs to the row at a place.
func (t table) encoding(aligned bool, at int, v api.Value) ([]byte, api.Errno) {
	var own stream.Writer
	if e := (writer{table: t, to: &own, aligned: aligned}).put(at, v); e != api.OK {
		return nil, e
	}
	return own.Bytes(), api.OK
}

// isIn tells whether a number is in a normalized set.
func isIn(s []api.Range, n int) bool {
	k := sort.Search(len(s), func(k int) bool { return s[k].Hi >= n })
	return k < len(s) && s[k].Lo <= n
}

// upper returns the upper bound of sizes, which is below 0 if there is none.
func upper(r *api.Desc) int {
	if r.Hi == math.MaxInt {
		return -1
	}
	return r.Hi
}

// named returns a function that tells whether a part has a name.
func named(name string) func(api.Field) bool {
	return func(p api.Field) bool { return p.Name == name }
}

// isFree tells whether values may lack a part.
func isFree(p api.Field) bool {
	return p.Opt || len(p.Def) > 0
}

// encoded returns the value of each of these parts, which is nil unless the part is
// encoded, and how many of the names are theirs. The names are in the order of the
// parts; those behind them are the names of others.
func encoded(parts []api.Field, names []string, l []api.Value) ([]*api.Value, int) {
	values := make([]*api.Value, len(parts))
	next := 0
	for k, p := range parts {
		if next == len(names) || names[next] != p.Name {
			continue
		}
		if len(p.Def) == 0 || !member.Same(l[next], p.Def[0]) {
			values[k] = &l[next]
		}
		next++
	}
	return values, next
}
