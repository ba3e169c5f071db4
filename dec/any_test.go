package dec_test

import (
	"encoding/binary"
	"math"
	"math/rand"
	"slices"
	"strings"
	"testing"

	"spandrel/api"
	"spandrel/enc"
	"spandrel/member"
)

// maker makes tables and values by a choice of numbers below a bound. One time in
// as many as wrong says, something is as it is not to be.
type maker struct {
	below func(bound int) int
	wrong int
}

// pick is one of these, and isWrong tells whether something is to be wrong.
func pick[E any](m maker, l ...E) E { return l[m.below(len(l))] }
func (m maker) isWrong() bool       { return m.below(m.wrong) == m.wrong-1 }

// names are a few names, all of them different.
func (m maker) names(count int) []string {
	all := strings.Fields("a b c d e f g h")
	for len(all) > count {
		at := m.below(len(all))
		all = slices.Delete(all, at, at+1)
	}
	at := m.below(len(all) + 1)
	return slices.Concat(all[at:], all[:at])
}

// ranges are a set from these numbers on, of which the first range has at most so
// many, as a rule.
func (m maker) ranges(from, most int) []api.Range {
	l := []api.Range{{Lo: from + m.below(3)}}
	l[0].Hi = l[0].Lo + pick(m, m.below(4), m.below(4), m.below(most))
	if m.below(3) == 0 {
		l = append(l, api.Range{Lo: l[0].Hi + 2, Hi: l[0].Hi + 2 + m.below(3)})
	}
	if m.below(4) == 0 {
		l[len(l)-1].Hi = math.MaxInt
	}
	return l
}

// row is a row of a table with so many rows, without defaults.
func (m maker) row(rows int) api.Desc {
	r := api.Desc{Kind: pick(m, 1, 2, 2, 3, 4, 5, 6, 7, 8, 8, 8, 9, 9, 10, 10)}
	r.Ext = r.Kind != api.Bool && r.Kind != api.Null && m.below(3) == 0
	own := m.names(1 + m.below(5))
	first := len(own)
	if r.Ext {
		first = 1 + m.below(len(own))
	}
	switch r.Kind {
	case api.Int:
		r.Set = m.ranges(m.below(6)-4, pick(m, 300, 70000, 1<<40))
		if m.below(4) == 0 {
			r.Set[0].Lo = math.MinInt
		}
	case api.SeqOf:
		r.Set = m.ranges(0, 4)
	case api.Bits, api.Octets, api.Str:
		r.Set = m.ranges(0, 300)
	case api.Enum:
		r.Names, r.More = own[:first:first], own[first:]
	case api.Seq, api.Choice:
		if r.Ext && m.below(10) == 0 {
			own = slices.Concat(own, strings.Split(numbered("m", 60+m.below(10), ""), ", "))
		}
		for k, s := range own {
			p := api.Field{Name: s, T: m.below(rows), Opt: r.Kind == api.Seq && m.below(2) == 0}
			if k < first {
				r.Parts = append(r.Parts, p)
			} else {
				r.Adds = append(r.Adds, p)
			}
		}
	}
	switch r.Kind {
	case api.Str:
		r.From = pick(m, "", "", "ab", "xyz")
	case api.SeqOf:
		r.Elem = m.below(rows)
	case api.Choice:
		for k := range r.Parts {
			r.Order = slices.Insert(r.Order, m.below(k+1), k)
		}
	}
	if len(r.Set) > 0 {
		r.Lo, r.Hi = r.Set[0].Lo, r.Set[len(r.Set)-1].Hi
	}
	return r
}

// table is a table, in which there are defaults.
func (m maker) table() []api.Desc {
	var d []api.Desc
	count := 1 + m.below(7)
	for range count {
		d = append(d, m.row(count))
	}
	for k := range d {
		if d[k].Kind == api.Seq {
			m.addDefaults(d, d[k].Parts)
			m.addDefaults(d, d[k].Adds)
		}
	}
	if m.isWrong() {
		pick(m, func() { d[0].Ext = !d[0].Ext }, func() { d[0].Lo++ }, func() { d[0].Elem++ }, func() { d = nil })()
	}
	return d
}

// addDefaults adds defaults to some of the parts that can have one.
func (m maker) addDefaults(d []api.Desc, parts []api.Field) {
	for k, p := range parts {
		if m.isWrong() {
			parts[k].Def = []api.Value{m.value(d, m.below(len(d)), 2)}
		}
		if m.below(2) == 0 && slices.Contains([]int{api.Bool, api.Int, api.Enum, api.Str}, d[p.T].Kind) {
			parts[k].Opt, parts[k].Def = false, []api.Value{m.value(d, p.T, 0)}
		}
	}
}

// size is a size of a row.
func (m maker) size(r api.Desc) int {
	x := r.Set[m.below(len(r.Set))]
	n := x.Lo + m.below(min(x.Hi-x.Lo, 3)+1)
	if m.isWrong() || r.Ext && m.below(3) == 0 {
		n = m.below(8)
	}
	if r.Kind != api.SeqOf && r.Hi > 1<<20 && m.below(20) == 0 {
		n = r.Lo + m.below(300)
	}
	return n
}

// text is a text of some characters.
func (m maker) text(from string, size int) string {
	b := make([]byte, size)
	for k := range b {
		b[k] = from[m.below(len(from))]
		if m.isWrong() {
			b[k] = byte(m.below(256))
		}
	}
	return string(b)
}

// value is a value of a row, as a rule, with about as many levels below it.
func (m maker) value(d []api.Desc, at, levels int) api.Value {
	r := d[at]
	v := api.Value{Kind: r.Kind}
	switch r.Kind {
	case api.Bool:
		v.N = m.below(2)
	case api.Int:
		x := r.Set[m.below(len(r.Set))]
		v.N = pick(m, x.Lo, x.Hi, x.Lo/2+x.Hi/2, x.Lo+min(m.below(1000), x.Hi/2-x.Lo/2))
		if m.isWrong() || r.Ext && m.below(3) == 0 {
			v.N = pick(m, x.Lo-1, x.Hi+1, m.below(10)-5)
		}
	case api.Enum:
		v.S = pick(m, slices.Concat(r.Names, r.More)...)
	case api.Bits:
		v.S = m.text("01", m.size(r))
	case api.Octets:
		v.S = m.text("\x00a\xff", m.size(r))
	case api.Str:
		v.S = m.text(r.From+map[bool]string{true: " ~"}[r.From == ""], m.size(r))
	case api.SeqOf:
		for range m.size(r) {
			v.L = append(v.L, m.element(d, r.Elem, levels))
		}
	case api.Choice:
		p := pick(m, allParts(r)...)
		v.S, v.L = p.Name, []api.Value{m.element(d, p.T, levels)}
	case api.Seq:
		m.addParts(d, &v, r, levels)
	}
	if m.isWrong() {
		m.spoil(&v)
	}
	return v
}

// element is an element one level below, of no Kind if there are no more levels.
func (m maker) element(d []api.Desc, at, levels int) api.Value {
	if levels <= 0 && d[at].Kind >= api.Seq {
		return api.Value{Kind: d[at].Kind}
	}
	return m.value(d, at, levels-1)
}

// addParts adds parts of a Seq to a value.
func (m maker) addParts(d []api.Desc, v *api.Value, r api.Desc, levels int) {
	for k, p := range allParts(r) {
		isFree := p.Opt || len(p.Def) > 0 || k >= len(r.Parts)
		if isFree && (levels <= 0 || m.below(2) == 0) || m.isWrong() {
			continue
		}
		x := m.element(d, p.T, levels)
		if len(p.Def) > 0 && m.below(4) == 0 {
			x = p.Def[0]
		}
		v.Names, v.L = append(v.Names, p.Name), append(v.L, x)
	}
}

// spoil lets something be wrong in a value.
func (m maker) spoil(v *api.Value) {
	switch m.below(9) {
	case 0:
		v.Kind = m.below(13) - 1
	case 1:
		v.N += pick(m, 1, -1, 7)
	case 2:
		v.S += pick(m, "a", "0", "\x80")
	case 3:
		v.Names = append(v.Names, pick(m, "a", "z"))
	case 4:
		v.L = append(v.L, pick(m, api.Value{}, null(), boolean(1)))
	case 5:
		slices.Reverse(v.Names)
		slices.Reverse(v.L)
	case 6:
		if len(v.Names) > 0 {
			v.Names = v.Names[1:]
		}
	case 7:
		if len(v.L) > 0 {
			v.L = v.L[:len(v.L)-1]
		}
	case 8:
		if len(v.Names) > 0 && len(v.L) > 0 {
			v.Names, v.L = append(v.Names, v.Names[0]), append(v.L, v.L[0])
		}
	}
}

// newer is a newer version of a table: with more additions, and more names.
func (m maker) newer(d []api.Desc) []api.Desc {
	now := slices.Clone(d)
	count := len(d)
	now = append(now, m.row(count), m.row(count))
	for k, r := range now[:count] {
		if !r.Ext || m.below(4) == 0 {
			continue
		}
		for n := range 1 + m.below(pick(m, 3, 3, 70)) {
			name := "new" + number(n)
			switch r.Kind {
			case api.Enum:
				now[k].More = append(slices.Clip(now[k].More), name)
			case api.Seq, api.Choice:
				now[k].Adds = append(slices.Clip(now[k].Adds), api.Field{Name: name, T: m.below(count + 2)})
			}
		}
	}
	return now
}

// changed are octets of which something is changed, or other ones.
func (m maker) changed(b []byte) []byte {
	c := slices.Clone(b)
	for range 1 + m.below(3) {
		at := m.below(len(c) + 1)
		switch m.below(6) {
		case 0:
			c = c[:at]
		case 1:
			c = slices.Insert(c, at, pick(m, 0, 1, 128, 255, byte(m.below(256))))
		case 2:
			c = append(c, byte(m.below(256)))
		case 3:
			c = nil
			for range m.below(20) {
				c = append(c, byte(m.below(256)))
			}
		default:
			if at < len(c) {
				c[at] ^= 1 << m.below(8)
			}
		}
	}
	return c
}

// holdAny holds a table, and octets that are values of it, that were such, that are
// values of a newer version of it, or any others. It tells how often there was each
// error.
func holdAny(t *testing.T, m maker, values int) map[api.Errno]int {
	t.Helper()
	counts := map[api.Errno]int{}
	d := m.table()
	if !member.Right(d) {
		for _, aligned := range variants {
			_, e := hold(t, d, aligned, m.changed([]byte{0}))
			counts[e]++
		}
		return counts
	}
	now := m.newer(d)
	for range values {
		of, isNewer := d, m.below(2) == 0 && member.Right(now)
		if isNewer {
			of = now
		}
		v := m.value(of, 0, 1+m.below(3))
		for _, aligned := range variants {
			b, e := enc.Encode(of, aligned, v)
			if e == api.OK {
				got, fault := hold(t, d, aligned, b)
				counts[fault]++
				if c, _ := member.Canon(of, v); !isNewer && (fault != api.OK || told(got) != told(c)) {
					t.Fatalf("%s of %s, aligned %v: %s, %d", shown(v), shown(d), aligned, shown(got), fault)
				}
			}
			for range 3 {
				_, fault := hold(t, d, aligned, m.changed(b))
				counts[fault]++
			}
		}
	}
	return counts
}

// P17.1 to P17.3: any tables, and any octets.
func TestAny(t *testing.T) {
	t.Parallel()
	from := rand.New(rand.NewSource(18))
	for _, wrong := range []int{100, 1000000} {
		m := maker{from.Intn, wrong}
		counts := map[api.Errno]int{}
		for range 600 {
			for e, n := range holdAny(t, m, 6) {
				counts[e] += n
			}
		}
		t.Log(wrong, counts)
		for _, e := range []api.Errno{api.OK, api.ErrShort, api.ErrForm, api.ErrConstraint, api.ErrUnknown} {
			if counts[e] < 100 {
				t.Error(wrong, counts)
			}
		}
	}
}

// FuzzDec: any tables and octets.
func FuzzDec(f *testing.F) {
	from := rand.New(rand.NewSource(19))
	for range 50 {
		b := make([]byte, from.Intn(600))
		from.Read(b)
		f.Add(b, uint8(from.Intn(200)))
	}
	f.Fuzz(func(t *testing.T, b []byte, wrong uint8) {
		m := maker{func(bound int) int {
			if len(b) < 2 {
				return 0
			}
			n := int(binary.BigEndian.Uint16(b))
			b = b[2:]
			return n % bound
		}, 2 + int(wrong)}
		holdAny(t, m, 4)
	})
}
