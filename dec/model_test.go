package dec_test

import (
	"math/big"
	"slices"
	"strings"

	"spandrel/api"
	"spandrel/member"
)

// This file says in binary digits what the chapters say, so that it has nothing in
// common with the packages that read.

// sheet is binary digits, which are read one behind the other, in one of the
// variants. Once there is an error, nothing more is read.
type sheet struct {
	digits  string
	at      int
	aligned bool
	fault   api.Errno
	// isForeign tells whether something was read that another version of the type
	// has written: with other additions than there are in the table.
	isForeign bool
	// steps is how many values were read.
	steps int
}

// Of more values than mostSteps, the model tells nothing but tooMany.
const (
	mostSteps           = 1 << 22
	tooMany   api.Errno = -1
)

// refuse notes an error if something is so, unless there is one already.
func (s *sheet) refuse(is bool, e api.Errno) {
	if is && s.fault == api.OK {
		s.fault = e
	}
}

// take reads so many digits.
func (s *sheet) take(width int) string {
	s.refuse(len(s.digits)-s.at < width, api.ErrShort)
	if s.fault != api.OK {
		return ""
	}
	s.at += width
	return s.digits[s.at-width : s.at]
}

// number reads an integer in so many digits.
func (s *sheet) number(width int) *big.Int {
	v, _ := new(big.Int).SetString("0"+s.take(width), 2)
	return v
}

// few reads an integer in a few digits, and digit whether one is 1.
func (s *sheet) few(width int) int { return int(s.number(width).Int64()) }
func (s *sheet) digit() bool       { return s.take(1) == "1" }

// align reads zeros up to a multiple of 8, in the aligned variant.
func (s *sheet) align() {
	if s.aligned {
		gap := (8 - s.at%8) % 8
		s.refuse(strings.Contains(s.digits[s.at:s.at+gap], "1"), api.ErrForm)
		s.take(gap)
	}
}

// end holds that nothing is left but zeros that fill an octet.
func (s *sheet) end() {
	left := s.digits[s.at:]
	isFilling := s.at > 0 && len(left) < 8 || s.at == 0 && len(left) == 8
	s.refuse(!isFilling || strings.Contains(left, "1"), api.ErrForm)
}

// minus is a - b.
func minus(a, b int) *big.Int {
	return new(big.Int).Sub(big.NewInt(int64(a)), big.NewInt(int64(b)))
}

// power is 2 to the power of k.
func power(k int) *big.Int { return new(big.Int).Lsh(big.NewInt(1), uint(k)) }

// count is how many octets an integer needs, and at least 1.
func count(v *big.Int) int { return max(1, (v.BitLen()+7)/8) }

// unsigned reads an integer that is not below 0 in so many octets, as chapter 2
// says.
func (s *sheet) unsigned(size int) *big.Int {
	v := s.number(8 * size)
	s.refuse(count(v) != size, api.ErrForm)
	s.refuse(size > 8, api.ErrLarge)
	return v
}

// signed reads an integer in two's complement in so many octets, as chapter 2 says.
func (s *sheet) signed(size int) *big.Int {
	text := s.take(8 * size)
	isLong := strings.HasPrefix(text, "000000000") || strings.HasPrefix(text, "111111111")
	s.refuse(size == 0 || isLong, api.ErrForm)
	s.refuse(size > 8, api.ErrLarge)
	v, _ := new(big.Int).SetString("0"+text, 2)
	if strings.HasPrefix(text, "1") {
		v.Sub(v, power(8*size))
	}
	return v
}

// sum is an integer and one more.
func sum(lo int, v *big.Int) *big.Int { return new(big.Int).Add(big.NewInt(int64(lo)), v) }

// whole reads an integer between two bounds, as chapter 3 says.
func (s *sheet) whole(lo, hi int) int {
	top := minus(hi, lo)
	var v *big.Int
	switch width := top.BitLen(); {
	case !s.aligned || top.Cmp(big.NewInt(254)) <= 0:
		v = s.number(width)
	case width <= 16:
		s.align()
		v = s.number((width + 7) / 8 * 8)
	default:
		size := s.whole(1, count(top))
		s.align()
		v = s.unsigned(size)
	}
	s.refuse(v.Cmp(top) > 0, api.ErrConstraint)
	return int(sum(lo, v).Int64())
}

// isNarrow tells whether a length is read between its bounds.
func isNarrow(hi int) bool { return hi >= 0 && hi < 65536 }

// isFixed tells whether there is but one size, which is not read.
func isFixed(lo, hi int) bool { return lo == hi && isNarrow(hi) }

// length reads a length, as chapter 4 says: how many units follow, and whether
// another length does.
func (s *sheet) length(lo, hi int) (int, bool) {
	if isNarrow(hi) {
		return s.whole(lo, hi), false
	}
	s.align()
	n, more := s.few(8), false
	switch {
	case n >= 192:
		n, more = 16384*(n-192), true
		s.refuse(n == 0 || n > 65536, api.ErrForm)
	case n >= 128:
		n = 256*(n-128) + s.few(8)
		s.refuse(n < 128, api.ErrForm)
	}
	return n, more
}

// one reads a length that is no fragment.
func (s *sheet) one() int {
	n, more := s.length(0, -1)
	s.refuse(more, api.ErrForm)
	return n
}

// small reads a number that is small as a rule, as chapter 4 says.
func (s *sheet) small() int {
	if !s.digit() {
		return s.few(6)
	}
	v := s.unsigned(s.one())
	s.refuse(v.Cmp(big.NewInt(64)) < 0, api.ErrForm)
	if s.refuse(v.Cmp(power(63)) >= 0, api.ErrLarge); s.fault != api.OK {
		return 0
	}
	return int(v.Int64())
}

// semi reads an integer from a lower bound on, as chapter 5 says.
func (s *sheet) semi(lo int) int {
	v := sum(lo, s.unsigned(s.one()))
	s.refuse(v.Cmp(power(63)) >= 0, api.ErrLarge)
	return int(v.Int64())
}

// free reads any integer, as chapter 5 says.
func (s *sheet) free() int { return int(s.signed(s.one()).Int64()) }

// fragments reads units of any sort, with a length ahead of each fragment: units
// reads so many of them. It tells how many there are.
func (s *sheet) fragments(lo, hi int, units func(n int)) int {
	if !isNarrow(hi) {
		lo, hi = 0, -1
	}
	total, last, more := 0, 65536, true
	for more && s.fault == api.OK {
		var n int
		n, more = s.length(lo, hi)
		s.refuse(more && last < 65536, api.ErrForm)
		s.refuse(total+n > 1<<20, api.ErrLarge)
		if s.fault == api.OK {
			units(n)
		}
		total, last = total+n, n
	}
	return total
}

// text reads a string of units of so many digits, as chapter 6 says: all their
// digits, and how many units there are.
func (s *sheet) text(width, lo, hi int, isText bool) (string, int) {
	if isFixed(lo, hi) {
		if lo*width > 16 {
			s.align()
		}
		return s.take(lo * width), lo
	}
	var b strings.Builder
	size := s.fragments(lo, hi, func(n int) {
		if n > 0 && !(isText && isNarrow(hi) && hi*width < 16) {
			s.align()
		}
		b.WriteString(s.take(n * width))
	})
	s.refuse(size < lo || hi >= 0 && size > hi, api.ErrConstraint)
	return b.String(), size
}

// spelling is how many digits each character of an alphabet has, and which
// character has these digits.
func spelling(from string, aligned bool) (int, map[string]byte) {
	all := []byte(from)
	for c := range 128 {
		if from == "" {
			all = append(all, byte(c))
		}
	}
	width := 0
	for 1<<width < len(all) || aligned && !slices.Contains([]int{0, 1, 2, 4, 8}, width) {
		width++
	}
	book := map[string]byte{}
	for k, c := range all {
		n := int(c)
		if int(slices.Max(all)) >= 1<<width {
			n = k
		}
		book[digits(n, width)] = c
	}
	return width, book
}

// digits are an integer in so many digits.
func digits(n, width int) string {
	var b strings.Builder
	for k := width - 1; k >= 0; k-- {
		b.WriteByte(byte('0' + n>>k&1))
	}
	return b.String()
}

// eights are all octets, by their digits.
var eights = func() map[string]byte {
	book := map[string]byte{}
	for c := range 256 {
		book[digits(c, 8)] = byte(c)
	}
	return book
}()

// characters reads a string of a Kind.
func (s *sheet) characters(r api.Desc, lo, hi int) string {
	if r.Kind == api.Bits {
		text, _ := s.text(1, lo, hi, false)
		return text
	}
	width, book := 8, eights
	if r.Kind == api.Str {
		width, book = spelling(r.From, s.aligned)
	}
	text, size := s.text(width, lo, hi, r.Kind == api.Str)
	if s.fault != api.OK {
		return ""
	}
	b := make([]byte, size)
	for k := range b {
		c, is := book[text[k*width:(k+1)*width]]
		s.refuse(!is, api.ErrConstraint)
		b[k] = c
	}
	return string(b)
}

// extension reads an extension bit, if there is one.
func (s *sheet) extension(r api.Desc) bool { return r.Ext && s.digit() }

// hold holds that a number or size is in the Set, or not, as its extension bit
// says.
func (s *sheet) hold(r api.Desc, n int, isOut bool) {
	is := slices.ContainsFunc(r.Set, func(x api.Range) bool { return x.Lo <= n && n <= x.Hi })
	s.refuse(isOut && is, api.ErrForm)
	s.refuse(!isOut && !is, api.ErrConstraint)
}

// sizes are the bounds of a size, behind its extension bit.
func sizes(r api.Desc, isOut bool) (int, int) {
	lo, hi := r.Lo, r.Hi
	if isOut {
		lo = 0
	}
	if isOut || hi == 1<<63-1 {
		hi = -1
	}
	return lo, hi
}

// value reads a value of a row, as chapter 17 says, so many levels deep.
func (s *sheet) value(d []api.Desc, at, level int) api.Value {
	r := d[at]
	v := api.Value{Kind: r.Kind}
	s.steps++
	s.refuse(s.steps > mostSteps, tooMany)
	s.refuse(r.Kind >= api.Seq && level > 40, api.ErrDeep)
	switch {
	case s.fault != api.OK:
	case r.Kind == api.Bool:
		v.N = s.few(1)
	case r.Kind == api.Int:
		v.N = s.integer(r)
	case r.Kind == api.Enum:
		k := s.which(r, len(r.Names))
		s.refuse(k >= len(r.Names)+len(r.More), api.ErrUnknown)
		if s.fault == api.OK {
			v.S = slices.Concat(r.Names, r.More)[k]
		}
	case r.Kind == api.SeqOf:
		v.L = s.list(d, r, level)
	case r.Kind == api.Choice:
		s.alternative(d, r, level, &v)
	case r.Kind == api.Seq:
		s.parts(d, r, level, &v)
	case r.Kind != api.Null:
		isOut := s.extension(r)
		lo, hi := sizes(r, isOut)
		v.S = s.characters(r, lo, hi)
		s.hold(r, len(v.S), isOut)
	}
	return v
}

// integer reads an Int.
func (s *sheet) integer(r api.Desc) int {
	isOut := s.extension(r)
	isLow, isHigh := !isOut && r.Lo > -1<<63, !isOut && r.Hi < 1<<63-1
	var n int
	switch {
	case isLow && isHigh:
		n = s.whole(r.Lo, r.Hi)
	case isLow:
		n = s.semi(r.Lo)
	default:
		n = s.free()
	}
	s.hold(r, n, isOut)
	return n
}

// which reads an index of so many first ones, or of those behind them.
func (s *sheet) which(r api.Desc, first int) int {
	if s.extension(r) {
		// The index may be as great as an integer can be.
		return first + min(s.small(), 1<<30)
	}
	return s.whole(0, first-1)
}

// list reads a SeqOf.
func (s *sheet) list(d []api.Desc, r api.Desc, level int) []api.Value {
	isOut := s.extension(r)
	lo, hi := sizes(r, isOut)
	var l []api.Value
	units := func(n int) {
		for k := 0; k < n && s.fault == api.OK; k++ {
			l = append(l, s.value(d, r.Elem, level+1))
		}
	}
	if isFixed(lo, hi) {
		units(lo)
	} else {
		size := s.fragments(lo, hi, units)
		s.refuse(size < lo || hi >= 0 && size > hi, api.ErrConstraint)
	}
	s.hold(r, len(l), isOut)
	return l
}

// allParts are the Parts of a row, and then its Adds.
func allParts(r api.Desc) []api.Field { return slices.Concat(r.Parts, r.Adds) }

// opened reads the digits of a separate encoding.
func (s *sheet) opened() string {
	var b strings.Builder
	s.fragments(0, -1, func(n int) { b.WriteString(s.take(8 * n)) })
	return b.String()
}

// separate reads a value from digits that have nothing else.
func (s *sheet) separate(d []api.Desc, at, level int, text string) api.Value {
	if s.fault != api.OK {
		return api.Value{}
	}
	own := sheet{digits: text, aligned: s.aligned, steps: s.steps}
	v := own.value(d, at, level)
	own.end()
	s.refuse(own.fault != api.OK, own.fault)
	s.isForeign = s.isForeign || own.isForeign
	s.steps = own.steps
	return v
}

// alternative reads a Choice.
func (s *sheet) alternative(d []api.Desc, r api.Desc, level int, v *api.Value) {
	k := s.which(r, len(r.Parts))
	if k < len(r.Parts) {
		p := r.Parts[r.Order[k]]
		v.S, v.L = p.Name, []api.Value{s.value(d, p.T, level+1)}
		return
	}
	text := s.opened()
	s.refuse(k >= len(r.Parts)+len(r.Adds), api.ErrUnknown)
	if s.fault == api.OK {
		p := r.Adds[k-len(r.Parts)]
		v.S, v.L = p.Name, []api.Value{s.separate(d, p.T, level+1, text)}
	}
}

// add adds a part to a Seq.
func (s *sheet) add(v *api.Value, p api.Field, x api.Value) {
	s.refuse(len(p.Def) == 1 && told(p.Def[0]) == told(x), api.ErrForm)
	v.Names, v.L = append(v.Names, p.Name), append(v.L, x)
}

// parts reads a Seq.
func (s *sheet) parts(d []api.Desc, r api.Desc, level int, v *api.Value) {
	hasAdds := s.extension(r)
	var parts []api.Field
	for _, p := range r.Parts {
		if !p.Opt && len(p.Def) == 0 || s.digit() {
			parts = append(parts, p)
		}
	}
	for _, p := range parts {
		if s.fault == api.OK {
			s.add(v, p, s.value(d, p.T, level+1))
		}
	}
	if hasAdds && s.fault == api.OK {
		s.adds(d, r, level, v)
	}
}

// adds reads the additions of a Seq.
func (s *sheet) adds(d []api.Desc, r api.Desc, level int, v *api.Value) {
	n := 0
	if s.digit() {
		n = s.one()
		s.refuse(n < 65, api.ErrForm)
	} else {
		n = s.few(6) + 1
	}
	which := s.take(n)
	s.refuse(!strings.Contains(which, "1"), api.ErrForm)
	s.isForeign = s.isForeign || n != len(r.Adds)
	for k, c := range which {
		if c == '0' || s.fault != api.OK {
			continue
		}
		text := s.opened()
		if k < len(r.Adds) {
			s.add(v, r.Adds[k], s.separate(d, r.Adds[k].T, level+1, text))
		}
	}
}

// spread are all octets as digits.
func spread(b []byte) string {
	var text strings.Builder
	for _, c := range b {
		text.WriteString(digits(int(c), 8))
	}
	return text.String()
}

// modelDecode is what Decode says, and whether the octets are those that Encode
// writes by this table.
func modelDecode(d []api.Desc, aligned bool, b []byte) (v api.Value, e api.Errno, isOwn bool) {
	if !member.Right(d) {
		return v, api.ErrArg, false
	}
	s := sheet{digits: spread(b), aligned: aligned}
	all := s.value(d, 0, 1)
	s.end()
	if s.fault != api.OK {
		return v, s.fault, false
	}
	return completed(d, 0, all), api.OK, !s.isForeign
}

// completed is a value with all defaults, as chapter 15 says.
func completed(d []api.Desc, at int, v api.Value) api.Value {
	c := api.Value{Kind: v.Kind, N: v.N, S: v.S}
	there := map[string]api.Value{}
	for k, x := range v.L {
		switch v.Kind {
		case api.SeqOf:
			c.L = append(c.L, completed(d, d[at].Elem, x))
		case api.Choice:
			c.L = append(c.L, completed(d, partOf(d[at], v.S).T, x))
		case api.Seq:
			there[v.Names[k]] = completed(d, partOf(d[at], v.Names[k]).T, x)
		}
	}
	for _, p := range allParts(d[at]) {
		x, is := there[p.Name]
		if !is && len(p.Def) == 1 {
			x, is = p.Def[0], true
		}
		if is && v.Kind == api.Seq {
			c.Names, c.L = append(c.Names, p.Name), append(c.L, x)
		}
	}
	return c
}

// partOf is the part with a name.
func partOf(r api.Desc, name string) api.Field {
	for _, p := range allParts(r) {
		if p.Name == name {
			return p
		}
	}
	return api.Field{}
}
