package bounds_test

import (
	"encoding/binary"
	"math/rand"
	"slices"
	"testing"

	"spandrel/api"
	"spandrel/bounds"
)

// maker makes constraints, sets and types by a choice of numbers below a bound.
type maker struct {
	below func(bound int) int
}

// integer is one near 0, or near an end of the integers.
func (m maker) integer() int {
	n := m.below(24)
	switch m.below(12) {
	case 0:
		return least + n
	case 1:
		return most - n
	}
	return n - 8
}

// ends are the ends of a range, which is seldom empty.
func (m maker) ends() (int, int) {
	lo, hi := m.integer(), m.integer()
	if lo > hi && m.below(8) > 0 {
		lo, hi = hi, lo
	}
	if m.below(2) == 0 {
		hi = lo
	}
	return lo, hi
}

// con is a constraint with up to so many levels.
func (m maker) con(levels int) api.Con {
	kind := m.below(24)
	switch {
	case kind == 0:
		return api.Con{}
	case kind == 1:
		return con(otherOps[m.below(len(otherOps))], one(m.integer()))
	case kind < 10 || levels < 2:
		c := span(m.ends())
		c.Low, c.High = m.below(16) == 0, m.below(16) == 0
		return c
	}
	return m.combination(levels)
}

// combination is a constraint with elements, if it does not lack them.
func (m maker) combination(levels int) api.Con {
	c := con(combinations[m.below(len(combinations))])
	count := m.below(7)
	if c.Op == api.Meet {
		// Few integers are admitted by many.
		count = m.below(4)
	}
	for range count {
		c.L = append(c.L, m.con(levels-1))
	}
	return c
}

// set is a set that is seldom normalized.
func (m maker) set() []api.Range {
	if m.below(2) == 0 {
		return set(least, most)
	}
	var l []api.Range
	for range m.below(5) {
		lo, hi := m.ends()
		l = append(l, api.Range{Lo: lo, Hi: hi})
	}
	return l
}

// typ is a type with up to so many levels.
func (m maker) typ(levels int) api.Type {
	x := api.Type{Kind: m.below(13), Ext: m.below(2) == 0, Con: upFrom(m.integer())}
	if m.below(3) == 0 {
		x.Con = m.con(3)
	}
	if levels < 2 || m.below(4) == 0 {
		return x
	}
	for range m.below(3) {
		x.Parts = append(x.Parts, part(m.typ(levels-1)))
	}
	for range m.below(2) {
		x.Adds = append(x.Adds, part(m.typ(levels-1)))
	}
	for range m.below(2) {
		x.Elem = append(x.Elem, m.typ(levels-1))
	}
	return x
}

// P12.1 to P12.4: any constraints, sets and types.
func TestAny(t *testing.T) {
	from := rand.New(rand.NewSource(12))
	m := maker{from.Intn}
	ranges, errs := map[int]int{}, map[api.Errno]int{}
	for range 10000 {
		c, parent := m.combination(2+from.Intn(4)), m.set()
		holdModel(t, c, parent)
		ranges[min(len(modelSet(c, parent)), 3)]++
		x := m.typ(1 + from.Intn(4))
		want, is := modelOf(x)
		holdOf(t, x, want, is)
		holdCheck(t, x, modelCheck(x))
		errs[modelCheck(x)]++
	}
	for k := range 4 {
		if ranges[k] < 300 {
			t.Error(ranges)
		}
	}
	if errs[api.OK] < 1000 || errs[api.ErrEmpty] < 1000 || len(errs) != 2 {
		t.Error(errs)
	}
}

// P12.5: what is admitted is in the parent, and is what all integers would have
// given of it.
func TestSubset(t *testing.T) {
	from := rand.New(rand.NewSource(13))
	m := maker{from.Intn}
	for range 10000 {
		c, parent := m.combination(4), m.set()
		got, of := bounds.Set(c, parent), bounds.Set(c, set(least, most))
		for _, n := range points(c, parent) {
			for _, n := range []int{n - 1, n, n + 1} {
				if modelIn(got, n) != (modelIn(parent, n) && modelIn(of, n)) {
					t.Fatalf("%s, %s: %s, of all integers %s", shown(c), shown(parent), shown(got), shown(of))
				}
			}
		}
	}
}

// P12.5: whether an integer is admitted depends only on which elements admit it.
func TestWhichElements(t *testing.T) {
	from := rand.New(rand.NewSource(14))
	m := maker{from.Intn}
	for range 3000 {
		var l []api.Con
		var sets [][]api.Range
		for range from.Intn(6) {
			l = append(l, m.con(3))
			sets = append(sets, bounds.Set(l[len(l)-1], set(least, most)))
		}
		for _, op := range combinations {
			c := con(op, l...)
			got := bounds.Set(c, set(least, most))
			said := map[[6]bool]bool{}
			for _, n := range points(c, nil) {
				var by [6]bool
				for k, s := range sets {
					by[k] = modelIn(s, n)
				}
				is := modelIn(got, n)
				if before, seen := said[by]; seen && before != is {
					t.Fatalf("%s admits %s, but not each integer that the same elements admit", shown(c), shown(got))
				}
				said[by] = is
			}
		}
	}
}

// inPieces is a constraint that admits what a set has, written in another way.
func inPieces(s []api.Range) api.Con {
	c := con(api.Union)
	for _, r := range s {
		c.L = append(c.L, span(r.Lo, r.Hi))
	}
	return c
}

// P12.5: so neither other constraints that admit the same, nor another order,
// nor elements that are there twice make another set.
func TestSameElements(t *testing.T) {
	from := rand.New(rand.NewSource(15))
	m := maker{from.Intn}
	for range 3000 {
		var l, same []api.Con
		for range 1 + from.Intn(5) {
			l = append(l, m.con(3))
			same = append(same, inPieces(bounds.Set(l[len(l)-1], set(least, most))))
		}
		parent := m.set()
		for _, op := range combinations {
			want := bounds.Set(con(op, l...), parent)
			fixed := 0
			if op == api.Except {
				fixed = 1
			}
			for _, x := range [][]api.Con{slices.Clone(l), slices.Clone(same)} {
				x = append(x, x[fixed:]...)
				from.Shuffle(len(x)-fixed, func(i, j int) { x[fixed+i], x[fixed+j] = x[fixed+j], x[fixed+i] })
				hold(t, con(op, x...), parent, want)
			}
		}
	}
}

// numbers are constraints of so many integers, each two more than the one ahead.
func numbers(first, count int) []api.Con {
	var l []api.Con
	for k := range count {
		l = append(l, one(first+2*k))
	}
	return l
}

// R1: long lists, in order and in none, take no more time than sorting them.
func TestLong(t *testing.T) {
	const count = 100000
	from := rand.New(rand.NewSource(16))
	even, odd, others := numbers(0, count), numbers(1, count), make([]api.Con, count)
	var evens, odds []api.Range
	for k := range count {
		evens = append(evens, api.Range{Lo: 2 * k, Hi: 2 * k})
		odds = append(odds, api.Range{Lo: 2*k + 1, Hi: 2*k + 1})
		others[k] = union(upTo(2*k), upFrom(2*k+2))
	}
	all := set(0, 2*count-1)
	for _, order := range []func(l []api.Con){
		func(l []api.Con) {},
		slices.Reverse[[]api.Con],
		func(l []api.Con) { from.Shuffle(len(l), func(i, j int) { l[i], l[j] = l[j], l[i] }) },
	} {
		a, b, c := slices.Clone(even), slices.Clone(odd), slices.Clone(others)
		order(a)
		order(b)
		order(c)
		for k, x := range []struct {
			c            api.Con
			parent, want []api.Range
		}{
			{union(a...), set(least, most), evens},
			{union(a...), evens, evens},
			{union(a...), odds, nil},
			{union(slices.Concat(a, b)...), set(least, most), all},
			{union(union(a...), union(b...)), odds, odds},
			{meet(c...), all, evens},
			{meet(append(c, union(a...))...), odds, nil},
			{except(append([]api.Con{{}}, a...)...), all, odds},
			{except(append([]api.Con{span(0, 2*count-1)}, b...)...), set(least, most), evens},
			{except(union(a...), union(b...), union(a[1:]...)), set(least, most), modelSet(a[0], all)},
			{except(append([]api.Con{meet(c...)}, b...)...), all, evens},
		} {
			if got := bounds.Set(x.c, x.parent); !slices.Equal(got, x.want) {
				t.Errorf("%d: %s, not %s", k, shown(got), shown(x.want))
			}
		}
		if lo, hi, is := bounds.Ends(evens); lo != 0 || hi != 2*count-2 || !is {
			t.Error(lo, hi, is)
		}
		wide := api.Type{Kind: api.Seq, Elem: []api.Type{{Kind: api.Int, Con: union(a...)}}}
		for _, c := range a {
			wide.Parts = append(wide.Parts, part(api.Type{Kind: api.Octets, Con: c}))
		}
		if e := bounds.Check(wide); e != api.OK {
			t.Error(e)
		}
		wide.Adds = append(wide.Parts, part(api.Type{Kind: api.Str, Con: one(-1)}))
		if e := bounds.Check(wide); e != api.ErrEmpty {
			t.Error(e)
		}
	}
}

// FuzzBounds: any constraints, sets and types.
func FuzzBounds(f *testing.F) {
	from := rand.New(rand.NewSource(17))
	for range 50 {
		b := make([]byte, from.Intn(300))
		from.Read(b)
		f.Add(b)
	}
	f.Fuzz(func(t *testing.T, b []byte) {
		m := maker{func(bound int) int {
			if len(b) < 2 {
				return 0
			}
			n := int(binary.BigEndian.Uint16(b))
			b = b[2:]
			return n % bound
		}}
		c, parent, x := m.combination(5), m.set(), m.typ(4)
		holdModel(t, c, parent)
		want, is := modelOf(x)
		holdOf(t, x, want, is)
		holdCheck(t, x, modelCheck(x))
	})
}
