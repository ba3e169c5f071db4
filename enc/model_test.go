package enc_test

import (
	"math/big"
	"slices"
	"strings"

	"spandrel/api"
)

// This file says in binary digits what the chapters say, so that it has nothing in
// common with the packages that write.

// page is binary digits, one behind the other, in one of the variants.
type page struct {
	strings.Builder
	aligned bool
}

// align writes zeros up to a multiple of 8, in the aligned variant.
func (p *page) align() {
	for p.aligned && p.Len()%8 > 0 {
		p.WriteByte('0')
	}
}

// digit writes a digit.
func (p *page) digit(is bool) {
	c := byte('0')
	if is {
		c = '1'
	}
	p.WriteByte(c)
}

// fixed writes an integer that is not below 0 in so many digits.
func (p *page) fixed(v *big.Int, width int) {
	for k := width - 1; k >= 0; k-- {
		p.digit(v.Bit(k) == 1)
	}
}

// few writes an integer in so many digits.
func (p *page) few(n, width int) { p.fixed(big.NewInt(int64(n)), width) }

// minus is a - b.
func minus(a, b int) *big.Int {
	return new(big.Int).Sub(big.NewInt(int64(a)), big.NewInt(int64(b)))
}

// count is how many octets an integer needs, and at least 1.
func count(v *big.Int) int { return max(1, (v.BitLen()+7)/8) }

// whole is an integer between two bounds, as chapter 3 says.
func (p *page) whole(n, lo, hi int) {
	v, top := minus(n, lo), minus(hi, lo)
	switch width := top.BitLen(); {
	case !p.aligned || width < 8 || top.Cmp(big.NewInt(254)) <= 0:
		p.fixed(v, width)
	case width <= 16:
		p.align()
		p.fixed(v, (width+7)/8*8)
	default:
		p.whole(count(v), 1, count(top))
		p.align()
		p.fixed(v, 8*count(v))
	}
}

// isNarrow tells whether a length is written between its bounds.
func isNarrow(hi int) bool { return hi >= 0 && hi < 65536 }

// length is a length, as chapter 4 says. It tells how many units follow, and
// whether another length does.
func (p *page) length(n, lo, hi int) (int, bool) {
	if isNarrow(hi) {
		p.whole(n, lo, hi)
		return n, false
	}
	p.align()
	m := min(n/16384, 4)
	switch {
	case n < 128:
		p.few(n, 8)
	case m == 0:
		p.few(2, 2)
		p.few(n, 14)
	default:
		p.few(3, 2)
		p.few(m, 6)
		return 16384 * m, true
	}
	return n, false
}

// small is a number that is small as a rule, as chapter 4 says.
func (p *page) small(n int) {
	p.digit(n > 63)
	if n <= 63 {
		p.few(n, 6)
		return
	}
	v := big.NewInt(int64(n))
	p.length(count(v), 0, -1)
	p.fixed(v, 8*count(v))
}

// semi is an integer from a lower bound on, as chapter 5 says.
func (p *page) semi(n, lo int) {
	v := minus(n, lo)
	p.length(count(v), 0, -1)
	p.fixed(v, 8*count(v))
}

// free is any integer in two's complement, as chapter 5 says.
func (p *page) free(n int) {
	v, size := big.NewInt(int64(n)), 1
	for v.Cmp(power(8*size-1)) >= 0 || new(big.Int).Neg(v).Cmp(power(8*size-1)) > 0 {
		size++
	}
	p.length(size, 0, -1)
	if v.Sign() < 0 {
		v.Add(v, power(8*size))
	}
	p.fixed(v, 8*size)
}

// power is 2 to the power of k.
func power(k int) *big.Int { return new(big.Int).Lsh(big.NewInt(1), uint(k)) }

// fragments are so many units of any sort, with a length ahead of each fragment:
// write writes the units from one to another.
func (p *page) fragments(units, lo, hi int, write func(from, to int) api.Errno) api.Errno {
	from := 0
	for {
		n, more := p.length(units-from, lo, hi)
		if e := write(from, from+n); e != api.OK || !more {
			return e
		}
		from, lo, hi = from+n, 0, -1
	}
}

// isFixed tells whether there is but one size, which is not written.
func isFixed(lo, hi int) bool { return lo == hi && isNarrow(hi) }

// text is a string in digits of so many for each unit, as chapter 6 says.
func (p *page) text(digits string, width, units, lo, hi int, isText bool) {
	if isFixed(lo, hi) {
		if len(digits) > 16 {
			p.align()
		}
		p.WriteString(digits)
		return
	}
	p.fragments(units, lo, hi, func(from, to int) api.Errno {
		if to > from && !(isText && isNarrow(hi) && hi*width < 16) {
			p.align()
		}
		p.WriteString(digits[from*width : to*width])
		return api.OK
	})
}

// spelling is the digits of each character of an alphabet, and how many they are.
func spelling(from string, aligned bool) ([256]string, int) {
	all := []byte(from)
	for c := range 128 {
		if from == "" {
			all = append(all, byte(c))
		}
	}
	width := 0
	for 1<<width < len(all) || aligned && !slices.Contains([]int{0, 1, 2, 4, 8}, width) {
		width++
	}
	var book [256]string
	for k, c := range all {
		n := int(c)
		if int(slices.Max(all)) >= 1<<width {
			n = k
		}
		book[c] = digits(n, width)
	}
	return book, width
}

// digits are an integer in so many digits.
func digits(n, width int) string {
	var p page
	p.few(n, width)
	return p.String()
}

// eights are all octets in digits.
var eights = func() (book [256]string) {
	for c := range book {
		book[c] = digits(c, 8)
	}
	return book
}()

// spell is a string of a Kind in digits, and how many each unit has.
func (p *page) spell(r api.Desc, s string) (string, int) {
	if r.Kind == api.Bits {
		return s, 1
	}
	book, width := eights, 8
	if r.Kind == api.Str {
		book, width = spelling(r.From, p.aligned)
	}
	var b strings.Builder
	b.Grow(len(s) * width)
	for k := range len(s) {
		b.WriteString(book[s[k]])
	}
	return b.String(), width
}

// ends writes the extension bit of a number or size, if there is one. It tells the
// bounds, or that none hold.
func (p *page) ends(r api.Desc, n int) (int, int, bool) {
	if r.Ext {
		isOut := !slices.ContainsFunc(r.Set, func(x api.Range) bool { return x.Lo <= n && n <= x.Hi })
		p.digit(isOut)
		if isOut {
			return 0, -1, false
		}
	}
	return r.Lo, r.Hi, true
}

// sizes are the bounds of a size, behind its extension bit.
func (p *page) sizes(r api.Desc, n int) (int, int) {
	lo, hi, _ := p.ends(r, n)
	if hi == 1<<63-1 {
		hi = -1
	}
	return lo, hi
}

// value is a value of a row, as chapter 16 says.
func (p *page) value(d []api.Desc, at int, v api.Value) api.Errno {
	r := d[at]
	switch v.Kind {
	case api.Bool:
		p.few(v.N, 1)
	case api.Int:
		p.integer(r, v.N)
	case api.Enum:
		if k := p.which(r.Ext, r.Names, r.More, v.S); k < len(r.Names) {
			p.whole(k, 0, len(r.Names)-1)
		}
	case api.Bits, api.Octets, api.Str:
		lo, hi := p.sizes(r, len(v.S))
		s, width := p.spell(r, v.S)
		p.text(s, width, len(v.S), lo, hi, v.Kind == api.Str)
	case api.SeqOf:
		return p.list(d, r, v.L)
	case api.Choice:
		return p.alternative(d, r, v)
	case api.Seq:
		return p.parts(d, r, v)
	}
	return api.OK
}

// integer is an Int.
func (p *page) integer(r api.Desc, n int) {
	lo, hi, is := p.ends(r, n)
	isLow, isHigh := is && lo > -1<<63, is && hi < 1<<63-1
	switch {
	case isLow && isHigh:
		p.whole(n, lo, hi)
	case isLow:
		p.semi(n, lo)
	default:
		p.free(n)
	}
}

// which is the index of a name in two lists, one behind the other. If it is in the
// second one, it is written.
func (p *page) which(ext bool, first, second []string, name string) int {
	k := slices.Index(slices.Concat(first, second), name)
	if ext {
		p.digit(k >= len(first))
	}
	if k >= len(first) {
		p.small(k - len(first))
	}
	return k
}

// list is a SeqOf.
func (p *page) list(d []api.Desc, r api.Desc, l []api.Value) api.Errno {
	lo, hi := p.sizes(r, len(l))
	all := func(from, to int) api.Errno {
		for _, v := range l[from:to] {
			if e := p.value(d, r.Elem, v); e != api.OK {
				return e
			}
		}
		return api.OK
	}
	if isFixed(lo, hi) {
		return all(0, len(l))
	}
	return p.fragments(len(l), lo, hi, all)
}

// namesOf are the names of parts.
func namesOf(l []api.Field) []string {
	var names []string
	for _, p := range l {
		names = append(names, p.Name)
	}
	return names
}

// allParts are the Parts of a row, and then its Adds.
func allParts(r api.Desc) []api.Field { return slices.Concat(r.Parts, r.Adds) }

// alternative is a Choice.
func (p *page) alternative(d []api.Desc, r api.Desc, v api.Value) api.Errno {
	k := p.which(r.Ext, namesOf(r.Parts), namesOf(r.Adds), v.S)
	at := allParts(r)[k].T
	if k >= len(r.Parts) {
		return p.opened(d, at, v.L[0])
	}
	for place, index := range r.Order {
		if index == k {
			p.whole(place, 0, len(r.Parts)-1)
		}
	}
	return p.value(d, at, v.L[0])
}

// opened is a value in a stream of its own.
func (p *page) opened(d []api.Desc, at int, v api.Value) api.Errno {
	own := page{aligned: p.aligned}
	if e := own.value(d, at, v); e != api.OK {
		return e
	}
	s := filled(own.String())
	if len(s) > 8<<20 {
		return 11
	}
	return p.fragments(len(s)/8, 0, -1, func(from, to int) api.Errno {
		p.WriteString(s[8*from : 8*to])
		return api.OK
	})
}

// filled is digits with zeros behind them, as octets have them, of which there is
// at least one.
func filled(s string) string {
	if s == "" {
		return "00000000"
	}
	return s + strings.Repeat("0", (8-len(s)%8)%8)
}

// parts is a Seq.
func (p *page) parts(d []api.Desc, r api.Desc, v api.Value) api.Errno {
	there := map[string]api.Value{}
	for k, s := range v.Names {
		there[s] = v.L[k]
	}
	for _, f := range allParts(r) {
		for _, x := range f.Def {
			if told(x) == told(there[f.Name]) {
				delete(there, f.Name)
			}
		}
	}
	has := func(f api.Field) bool { _, is := there[f.Name]; return is }
	hasAdds := slices.ContainsFunc(r.Adds, has)
	if r.Ext {
		p.digit(hasAdds)
	}
	for _, f := range r.Parts {
		if f.Opt || len(f.Def) == 1 {
			p.digit(has(f))
		}
	}
	for _, f := range r.Parts {
		if has(f) {
			if e := p.value(d, f.T, there[f.Name]); e != api.OK {
				return e
			}
		}
	}
	if !hasAdds {
		return api.OK
	}
	if n := len(r.Adds); n < 65 {
		p.few(n-1, 7)
	} else {
		p.few(1, 1)
		p.length(n, 0, -1)
	}
	for _, f := range r.Adds {
		p.digit(has(f))
	}
	for _, f := range r.Adds {
		if has(f) {
			if e := p.opened(d, f.T, there[f.Name]); e != api.OK {
				return e
			}
		}
	}
	return api.OK
}
