package strings_test

import (
	"bytes"
	"fmt"
	"math"
	"slices"
	"strconv"
	"strings"
	"testing"

	"spandrel/api"
	"spandrel/stream"
	under "spandrel/strings"
)

// This file says in binary digits what the chapter says, with the lengths of the
// chapters below it, so that it has nothing in common with the package that it
// tests.

// both is the variants.
var both = []bool{false, true}

// kind is one of the three kinds of strings, and the alphabet of a text.
type kind struct {
	name string
	from string
}

var (
	octets = kind{name: "octets"}
	bits   = kind{name: "bits"}
)

// text is the kind of a text with this alphabet.
func text(from string) kind {
	return kind{"text", from}
}

// put writes a string by the function of its kind.
func (k kind) put(w *stream.Writer, aligned bool, s string, lo, hi int) api.Errno {
	switch k.name {
	case "octets":
		return under.PutOctets(w, aligned, []byte(s), lo, hi)
	case "bits":
		return under.PutBits(w, aligned, s, lo, hi)
	}
	return under.PutText(w, aligned, s, k.from, lo, hi)
}

// get reads a string by the function of its kind.
func (k kind) get(r *stream.Reader, aligned bool, lo, hi int) (string, api.Errno) {
	switch k.name {
	case "octets":
		b, e := under.GetOctets(r, aligned, lo, hi)
		return string(b), e
	case "bits":
		return under.GetBits(r, aligned, lo, hi)
	}
	return under.GetText(r, aligned, k.from, lo, hi)
}

// isAlphabet tells whether the characters are sorted, each of them once, and
// have seven bits.
func isAlphabet(from string) bool {
	b := []byte(from)
	slices.Sort(b)
	return string(slices.Compact(b)) == from && (from == "" || b[len(b)-1] < 128)
}

// letters is all characters of an alphabet.
func letters(from string) string {
	if from != "" {
		return from
	}
	var s strings.Builder
	for c := range 128 {
		s.WriteByte(byte(c))
	}
	return s.String()
}

// widthOf is what P6.1 asks for.
func widthOf(from string, aligned bool) int {
	if !isAlphabet(from) {
		return 0
	}
	width := 0
	for 1<<width < len(letters(from)) {
		width++
	}
	if aligned && width > 0 {
		for !slices.Contains([]int{1, 2, 4, 8}, width) {
			width++
		}
	}
	return width
}

// width is how many bits a unit has.
func (k kind) width(aligned bool) int {
	switch k.name {
	case "octets":
		return 8
	case "bits":
		return 1
	}
	return widthOf(k.from, aligned)
}

// book is which octets are units, the digits of each, and the unit of each row
// of digits.
type book struct {
	known  [256]bool
	digits [256]string
	units  map[string]byte
}

// add tells that a unit has this number.
func (b *book) add(unit byte, number, width int) {
	s := fmt.Sprintf("%0*b", width, number)
	if width == 0 {
		s = ""
	}
	b.known[unit], b.digits[unit], b.units[s] = true, s, unit
}

// books keeps the books that were made.
var books = map[string]*book{}

// book is how the units are spelled.
func (k kind) book(aligned bool) *book {
	key := fmt.Sprintf("%q %v", k, aligned)
	if b, ok := books[key]; ok {
		return b
	}
	b, width := &book{units: map[string]byte{}}, k.width(aligned)
	switch k.name {
	case "octets":
		for o := range 256 {
			b.add(byte(o), o, 8)
		}
	case "bits":
		b.add('0', 0, 1)
		b.add('1', 1, 1)
	case "text":
		all := letters(k.from)
		for i, c := range []byte(all) {
			number := int(c)
			if int(all[len(all)-1]) >= 1<<width {
				number = i
			}
			b.add(c, number, width)
		}
	}
	books[key] = b
	return b
}

// spell is units in digits.
func (k kind) spell(aligned bool, s string) string {
	b := k.book(aligned)
	var all strings.Builder
	for _, c := range []byte(s) {
		all.WriteString(b.digits[c])
	}
	return all.String()
}

// padded is as many zeros as lead from a position to the next multiple of 8, in
// the aligned variant.
func padded(pos int, aligned bool) string {
	if !aligned {
		return ""
	}
	return strings.Repeat("0", (8-pos%8)%8)
}

// narrow tells whether a length is written between its bounds.
func narrow(hi int) bool {
	return hi >= 0 && hi < 65536
}

// fixed tells whether there is no length.
func fixed(lo, hi int) bool {
	return lo == hi && narrow(hi)
}

// between is the digits of a length with narrow bounds behind pos bits.
func between(pos int, aligned bool, n, lo, hi int) string {
	switch {
	case aligned && hi-lo > 255:
		return padded(pos, true) + fmt.Sprintf("%016b", n-lo)
	case aligned && hi-lo == 255:
		return padded(pos, true) + fmt.Sprintf("%08b", n-lo)
	}
	return fmt.Sprintf("%0*b", len(strconv.FormatInt(int64(hi-lo), 2)), n-lo)
}

// form is the digits of a length without narrow bounds, or of its first
// fragment, and what is told of the units that follow it.
func form(n int) (string, int, bool) {
	if n <= 127 {
		return fmt.Sprintf("0%07b", n), n, false
	}
	if n <= 16383 {
		return fmt.Sprintf("10%014b", n), n, false
	}
	m := 4
	for 16384*m > n {
		m--
	}
	return fmt.Sprintf("11%06b", m), 16384 * m, true
}

// gap is the zeros between a length and its units, where pos is their place.
func (k kind) gap(pos int, aligned bool, count, hi int) string {
	short := k.name == "text" && narrow(hi) && hi*k.width(aligned) <= 15
	return padded(pos, aligned && count > 0 && !short)
}

// whole is what P6.2 asks for behind pos bits, of a string that may be written.
func (k kind) whole(pos int, aligned bool, s string, lo, hi int) string {
	units, width := k.spell(aligned, s), k.width(aligned)
	if fixed(lo, hi) {
		return padded(pos, aligned && len(units) > 16) + units
	}
	if narrow(hi) {
		head := between(pos, aligned, len(s), lo, hi)
		return head + k.gap(pos+len(head), aligned, len(s), hi) + units
	}
	var all strings.Builder
	for left, more := len(s), true; more; {
		var head string
		var count int
		head, count, more = form(left)
		all.WriteString(padded(pos+all.Len(), aligned) + head)
		all.WriteString(k.gap(pos+all.Len(), aligned, count, hi))
		all.WriteString(units[:count*width])
		units = units[count*width:]
		left -= count
	}
	return all.String()
}

// outside tells whether n is not between lo and hi.
func outside(n, lo, hi int) bool {
	return n < lo || hi >= 0 && n > hi
}

// valid tells whether a size can have these bounds.
func valid(lo, hi int) bool {
	return lo >= 0 && (hi < 0 || lo <= hi)
}

// refusal is the error of P6.2, for a Writer that is not nil.
func (k kind) refusal(aligned bool, s string, lo, hi int) api.Errno {
	if !valid(lo, hi) || k.name == "text" && !isAlphabet(k.from) {
		return api.ErrArg
	}
	b := k.book(aligned)
	for _, c := range []byte(s) {
		if !b.known[c] {
			return api.ErrConstraint
		}
	}
	if outside(len(s), lo, hi) {
		return api.ErrConstraint
	}
	if len(s) > 1<<20 {
		return api.ErrLarge
	}
	return api.OK
}

// tape is digits that are read from a position on.
type tape struct {
	all string
	pos int
}

// take reads count digits.
func (t *tape) take(count int) (string, api.Errno) {
	if t.pos+count > len(t.all) {
		return "", api.ErrShort
	}
	t.pos += count
	return t.all[t.pos-count : t.pos], api.OK
}

// number reads count digits as an integer.
func (t *tape) number(count int) (int, api.Errno) {
	s, e := t.take(count)
	if e != api.OK {
		return 0, e
	}
	n, _ := strconv.ParseInt("0"+s, 2, 64)
	return int(n), api.OK
}

// skip reads zeros.
func (t *tape) skip(zeros string) api.Errno {
	if !strings.HasPrefix(t.all[t.pos:], zeros) {
		return api.ErrForm
	}
	t.pos += len(zeros)
	return api.OK
}

// length reads a length, with narrow bounds or without.
func (t *tape) length(aligned bool, lo, hi int) (int, bool, api.Errno) {
	if !narrow(hi) {
		return t.form(aligned)
	}
	s := between(t.pos, aligned, lo, lo, hi)
	width := len(s)
	if aligned && hi-lo >= 255 {
		zeros := padded(t.pos, true)
		width -= len(zeros)
		if e := t.skip(zeros); e != api.OK {
			return 0, false, e
		}
	}
	n, e := t.number(width)
	if e != api.OK {
		return 0, false, e
	}
	if n > hi-lo {
		return 0, false, api.ErrConstraint
	}
	return lo + n, false, api.OK
}

// form reads a length without narrow bounds, or a fragment's.
func (t *tape) form(aligned bool) (int, bool, api.Errno) {
	if e := t.skip(padded(t.pos, aligned)); e != api.OK {
		return 0, false, e
	}
	n, e := t.number(8)
	switch {
	case e != api.OK || n < 128:
		return n, false, e
	case n >= 192 && (n == 192 || n > 196):
		return 0, false, api.ErrForm
	case n >= 192:
		return 16384 * (n - 192), true, api.OK
	}
	low, e := t.number(8)
	n = 256*(n-128) + low
	if e == api.OK && n < 128 {
		e = api.ErrForm
	}
	if e != api.OK {
		n = 0
	}
	return n, false, e
}

// whole is what P6.3 asks for, for a Reader that is not nil.
func (t *tape) whole(k kind, aligned bool, lo, hi int) (string, api.Errno) {
	if !valid(lo, hi) || k.name == "text" && !isAlphabet(k.from) {
		return "", api.ErrArg
	}
	width := k.width(aligned)
	if fixed(lo, hi) {
		if e := t.skip(padded(t.pos, aligned && width*lo > 16)); e != api.OK {
			return "", e
		}
		units, e := t.take(width * lo)
		if e != api.OK {
			return "", e
		}
		return k.read(aligned, units, lo)
	}
	var units strings.Builder
	total, last := 0, 65536
	for more := true; more; {
		var n int
		var e api.Errno
		n, more, e = t.length(aligned, lo, hi)
		switch {
		case e != api.OK:
			return "", e
		case more && last < 65536:
			return "", api.ErrForm
		case total+n > 1<<20:
			return "", api.ErrLarge
		}
		if e := t.skip(k.gap(t.pos, aligned, n, hi)); e != api.OK {
			return "", e
		}
		s, e := t.take(n * width)
		if e != api.OK {
			return "", e
		}
		units.WriteString(s)
		total, last = total+n, n
	}
	if outside(total, lo, hi) {
		return "", api.ErrConstraint
	}
	return k.read(aligned, units.String(), total)
}

// read is the string of n units that have these digits.
func (k kind) read(aligned bool, digits string, n int) (string, api.Errno) {
	b, s, width := k.book(aligned), make([]byte, n), k.width(aligned)
	for i := range s {
		unit, ok := b.units[digits[i*width:(i+1)*width]]
		if !ok {
			return "", api.ErrConstraint
		}
		s[i] = unit
	}
	return string(s), api.OK
}

// spelled is each octet as binary digits.
var spelled = func() (all [256]string) {
	for i := range all {
		all[i] = fmt.Sprintf("%08b", i)
	}
	return all
}()

// digits is octets as a text of binary digits.
func digits(b []byte) string {
	var s strings.Builder
	s.Grow(8 * len(b))
	for _, o := range b {
		s.WriteString(spelled[o])
	}
	return s.String()
}

// packed is digits as octets, with zeros behind the last one.
func packed(s string) []byte {
	b := make([]byte, (len(s)+7)/8)
	for i, d := range []byte(s) {
		b[i/8] |= (d - '0') << (7 - i%8)
	}
	return b
}

// ones is as many digits 1.
func ones(count int) string {
	return strings.Repeat("1", count)
}

// writer is a Writer that holds pos bits, all of them 1.
func writer(pos int) *stream.Writer {
	w := &stream.Writer{}
	for range pos {
		w.Put(1, 1)
	}
	return w
}

// at is a Reader that has read pos bits of b, which has as many.
func at(b []byte, pos int) *stream.Reader {
	r := stream.New(b)
	for range pos {
		r.Get(1)
	}
	return r
}

// shown is a string, or as much as tells it from others.
func shown(s string) string {
	return fmt.Sprintf("%d units, %.40q", len(s), s)
}

// checkHolds holds the bits of a Writer against digits.
func checkHolds(t *testing.T, w *stream.Writer, want string) {
	t.Helper()
	if got := packed(want); w.Len() != len(want) || len(want) > 0 && !bytes.Equal(w.Bytes(), got) {
		t.Fatalf("%s of %d bits are written, not %s of %d", shown(string(w.Bytes())), w.Len(), shown(string(got)), len(want))
	}
}

// checkPut holds a function that writes against P6.2, behind pos bits of a
// Writer; and the one that reads against P6.4, whatever follows.
func checkPut(t *testing.T, k kind, pos int, aligned bool, s string, lo, hi int) {
	t.Helper()
	w, added, want := writer(pos), "", k.refusal(aligned, s, lo, hi)
	if want == api.OK {
		added = k.whole(pos, aligned, s, lo, hi)
	}
	if e := k.put(w, aligned, s, lo, hi); e != want {
		t.Fatalf("%q %s behind %d, aligned %v, %d to %d: error %d, not %d", k, shown(s), pos, aligned, lo, hi, e, want)
	}
	checkHolds(t, w, ones(pos)+added)
	if want != api.OK {
		return
	}
	w.Put(math.MaxUint64, 64)
	r := at(w.Bytes(), pos)
	if got, e := k.get(r, aligned, lo, hi); got != s || e != api.OK || r.Pos() != pos+len(added) {
		t.Fatalf("%q %s behind %d, aligned %v, %d to %d: %s, error %d, at %d, not %d", k, shown(s), pos, aligned, lo, hi, shown(got), e, r.Pos(), pos+len(added))
	}
}

// checkGet holds a function that reads against P6.3, behind pos bits of b; and
// that a string that was read has no other bits than those that were read.
func checkGet(t *testing.T, k kind, b []byte, pos int, aligned bool, lo, hi int) (string, api.Errno) {
	t.Helper()
	model := &tape{digits(b), pos}
	want, fault := model.whole(k, aligned, lo, hi)
	r := at(b, pos)
	got, e := k.get(r, aligned, lo, hi)
	if got != want || e != fault || e == api.OK && r.Pos() != model.pos {
		t.Fatalf("%q in %s behind %d, aligned %v, %d to %d: %s, error %d, at %d, not %s, %d, %d", k, shown(string(b)), pos, aligned, lo, hi, shown(got), e, r.Pos(), shown(want), fault, model.pos)
	}
	if e == api.OK && k.whole(pos, aligned, got, lo, hi) != model.all[pos:model.pos] {
		t.Fatalf("%q in %s behind %d, aligned %v, %d to %d: %s has other bits", k, shown(string(b)), pos, aligned, lo, hi, shown(got))
	}
	return got, e
}

// content is n units of a kind, which are not all alike where there are several.
func (k kind) content(n int) string {
	all := []byte("01")
	switch k.name {
	case "octets":
		all = packed(strings.Join(spelled[:], ""))
	case "text":
		all = []byte(letters(k.from))
	}
	b := make([]byte, n)
	for i := range b {
		b[i] = all[(i*i+i/3+n)%len(all)]
	}
	return string(b)
}
