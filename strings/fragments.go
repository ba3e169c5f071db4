package strings

import (
	"spandrel/api"
	"spandrel/length"
	"spandrel/stream"
)

// Only behind a fragment as great as this is there another one.
const greatest = 65536

// put writes n units and, unless it is fixed, their number. units writes those
// from one index up to another.
func put(w *stream.Writer, l layout, n int, units func(from, to int) api.Errno) api.Errno {
	if !l.admits(n) {
		return api.ErrConstraint
	}
	if n > api.MaxLength {
		return api.ErrLarge
	}
	if l.fixed() {
		return putPart(w, l, 0, n, units)
	}
	lo, hi := l.lo, l.hi
	for from, more := 0, true; more; {
		var count int
		var e api.Errno
		count, more, e = length.Put(w, l.aligned, n-from, lo, hi)
		if e != api.OK {
			return e
		}
		if e := putPart(w, l, from, from+count, units); e != api.OK {
			return e
		}
		from += count
		// What is left may be less than lo.
		lo, hi = 0, -1
	}
	return api.OK
}

// putPart writes the units from one index up to another, aligned if they have
// to be.
func putPart(w *stream.Writer, l layout, from, to int, units func(from, to int) api.Errno) api.Errno {
	if l.aligns(to - from) {
		w.Align()
	}
	return units(from, to)
}

// get reads what put writes. units reads as many units as it is asked for.
func get(r *stream.Reader, l layout, units func(count int) ([]byte, api.Errno)) ([]byte, api.Errno) {
	if l.fixed() {
		return getPart(r, l, l.lo, units)
	}
	var all []byte
	for last, more := greatest, true; more; {
		var count int
		var e api.Errno
		count, more, e = getCount(r, l)
		switch {
		case e != api.OK:
			return nil, e
		case more && last < greatest:
			return nil, api.ErrForm
		case len(all)+count > api.MaxLength:
			return nil, api.ErrLarge
		}
		part, e := getPart(r, l, count, units)
		if e != api.OK {
			return nil, e
		}
		all, last = append(all, part...), count
	}
	if !l.admits(len(all)) {
		return nil, api.ErrConstraint
	}
	return all, api.OK
}

// getCount reads how many units follow, and whether another number follows
// these.
func getCount(r *stream.Reader, l layout) (int, bool, api.Errno) {
	if l.narrow() {
		return length.Get(r, l.aligned, l.lo, l.hi)
	}
	// Whether the size is between its bounds is told when all units are read.
	return length.Get(r, l.aligned, 0, -1)
}

// getPart reads units, which are aligned if they have to be.
func getPart(r *stream.Reader, l layout, count int, units func(count int) ([]byte, api.Errno)) ([]byte, api.Errno) {
	if l.aligns(count) {
		if e := r.Align(); e != api.OK {
			return nil, e
		}
	}
	return units(count)
}
