package length_test

import (
	"fmt"
	"math"
	"strings"
	"testing"

	"spandrel/api"
	"spandrel/length"
	"spandrel/stream"
	"spandrel/whole"
)

// This file says in binary digits what the chapter says, so that it has nothing
// in common with the package that it tests, but that both leave lengths with
// narrow bounds to package whole, as the chapter does.

// bounds is the bounds of a length.
type bounds struct{ lo, hi int }

// isNarrow tells whether package whole writes the lengths between the bounds.
func (x bounds) isNarrow() bool {
	return x.hi >= 0 && x.hi < 1<<16
}

// holds tells whether n is between the bounds.
func (x bounds) holds(n int) bool {
	return n >= x.lo && (x.hi < 0 || n <= x.hi)
}

// answer is all that Put and Get return.
type answer struct {
	n    int
	more bool
	e    api.Errno
}

// both is the variants.
var both = []bool{false, true}

// digits is octets as a text of binary digits.
func digits(b []byte) string {
	var s strings.Builder
	for _, o := range b {
		fmt.Fprintf(&s, "%08b", o)
	}
	return s.String()
}

// packed is digits as octets, with zeros behind the last one; no digits are no
// octets.
func packed(s string) []byte {
	if s == "" {
		return nil
	}
	var w stream.Writer
	for _, d := range s {
		w.Put(uint64(d-'0'), 1)
	}
	return w.Bytes()
}

// padded is as many zeros as lead from a position to the next multiple of 8, in
// the aligned variant.
func padded(pos int, aligned bool) string {
	if !aligned {
		return ""
	}
	return strings.Repeat("0", (8-pos%8)%8)
}

// form is the digits of a length without narrow bounds, and what is told of the
// units that follow it.
func form(n int) (string, int, bool) {
	if n <= 127 {
		return fmt.Sprintf("0%07b", n), n, false
	}
	if n <= 16383 {
		return fmt.Sprintf("10%014b", n), n, false
	}
	m := 4
	for 16384*m > n {
		m--
	}
	return fmt.Sprintf("11%06b", m), 16384 * m, true
}

// written is what P4.1 asks for behind pos bits, if there is no error.
func written(pos int, aligned bool, n int, x bounds) (string, answer) {
	if x.isNarrow() {
		w := writer(pos)
		whole.Put(w, aligned, n, x.lo, x.hi)
		return digits(w.Bytes())[pos:w.Len()], answer{n: n}
	}
	s, count, more := form(n)
	return padded(pos, aligned) + s, answer{n: count, more: more}
}

// smallWritten is what P4.3 asks of PutSmall behind pos bits.
func smallWritten(pos int, aligned bool, n int) string {
	if n <= 63 {
		return fmt.Sprintf("0%06b", n)
	}
	s := fmt.Sprintf("%b", n)
	for len(s)%8 > 0 {
		s = "0" + s
	}
	return "1" + padded(pos+1, aligned) + fmt.Sprintf("0%07b", len(s)/8) + s
}

// tape is digits that are read from a position on.
type tape struct {
	all string
	pos int
}

// take reads count digits.
func (t *tape) take(count int) (string, api.Errno) {
	if t.pos+count > len(t.all) {
		return "", api.ErrShort
	}
	t.pos += count
	return t.all[t.pos-count : t.pos], api.OK
}

// number is the integer of digits, which has at most 64 bits.
func number(s string) uint64 {
	var v uint64
	for _, d := range s {
		v = 2*v + uint64(d-'0')
	}
	return v
}

// form reads one of the three forms.
func (t *tape) form(aligned bool) answer {
	zeros := padded(t.pos, aligned)
	if !strings.HasPrefix(t.all[t.pos:], zeros) {
		return answer{e: api.ErrForm}
	}
	t.pos += len(zeros)
	s, e := t.take(8)
	if e != api.OK {
		return answer{e: e}
	}
	rest := int(number(s[2:]))
	switch {
	case s[0] == '0':
		return answer{n: int(number(s))}
	case s[1] == '0':
		next, e := t.take(8)
		if e != api.OK {
			return answer{e: e}
		}
		if n := 256*rest + int(number(next)); n >= 128 {
			return answer{n: n}
		}
	case rest == 1 || rest == 2 || rest == 3 || rest == 4:
		return answer{n: 16384 * rest, more: true}
	}
	return answer{e: api.ErrForm}
}

// length is what P4.2 asks for, of bounds that are valid.
func (t *tape) length(aligned bool, x bounds) answer {
	if x.isNarrow() {
		r := at(packed(t.all), t.pos)
		n, e := whole.Get(r, aligned, x.lo, x.hi)
		t.pos = r.Pos()
		return answer{n: n, e: e}
	}
	a := t.form(aligned)
	tooFew, tooMany := a.n < x.lo && !a.more, x.hi >= 0 && a.n > x.hi
	if a.e == api.OK && (tooFew || tooMany) {
		return answer{e: api.ErrConstraint}
	}
	return a
}

// small is what P4.3 asks of GetSmall.
func (t *tape) small(aligned bool) (int, api.Errno) {
	first, e := t.take(1)
	if e != api.OK {
		return 0, e
	}
	if first == "0" {
		s, e := t.take(6)
		return int(number(s)), e
	}
	a := t.form(aligned)
	if a.e != api.OK {
		return 0, a.e
	}
	if a.more {
		return 0, api.ErrForm
	}
	s, e := t.take(8 * a.n)
	if e != api.OK {
		return 0, e
	}
	switch {
	case s == "" || len(s) > 8 && strings.HasPrefix(s, "00000000"):
		return 0, api.ErrForm
	case len(s) > 64:
		return 0, api.ErrLarge
	case number(s) < 64:
		return 0, api.ErrForm
	case number(s) > math.MaxInt:
		return 0, api.ErrLarge
	}
	return int(number(s)), api.OK
}

// writer is a Writer that holds pos bits, all of them 1.
func writer(pos int) *stream.Writer {
	w := &stream.Writer{}
	for range pos {
		w.Put(1, 1)
	}
	return w
}

// at is a Reader that has read pos bits of b, which has as many.
func at(b []byte, pos int) *stream.Reader {
	r := stream.New(b)
	for range pos {
		r.Get(1)
	}
	return r
}

// lengths is the lengths that the chapter names, and those beside them; both
// sides of each number of pieces, and of each power of 2.
func lengths() []int {
	list := []int{0, 1, 5, 200, 300, 70000, 100000, 1 << 20, math.MaxInt - 1, math.MaxInt}
	for m := 1; m <= 10; m++ {
		list = append(list, 16384*m-1, 16384*m, 16384*m+1)
	}
	for i := 2; i < 63; i++ {
		list = append(list, 1<<i-1, 1<<i, 1<<i+1)
	}
	return list
}

// validBounds is bounds of both kinds: narrow, free, and with an upper bound
// that is not narrow.
func validBounds() []bounds {
	return []bounds{
		{0, 0}, {3, 3}, {65535, 65535}, {0, 1}, {1, 2}, {0, 127}, {0, 254}, {0, 255}, {1, 256}, {0, 256}, {1, 300},
		{128, 128}, {0, 16383}, {0, 16384}, {16384, 65535}, {65534, 65535}, {0, 65534}, {1, 65535}, {0, 65535},
		{0, 65536}, {1, 65536}, {300, 65536}, {65535, 65536}, {65536, 65536}, {0, 65537}, {128, 65537}, {0, 70000},
		{70000, 70000}, {65537, 100000}, {0, 1 << 20}, {0, math.MaxInt}, {math.MaxInt, math.MaxInt},
		{0, -1}, {0, -2}, {0, math.MinInt}, {1, -1}, {5, -65536}, {128, -1}, {200, math.MinInt}, {16384, -1},
		{65535, -1}, {65536, -1}, {70000, -1}, {math.MaxInt, -1}, {math.MaxInt, math.MinInt},
	}
}

// wrongBounds is bounds that are not valid.
func wrongBounds() []bounds {
	return []bounds{
		{-1, -1}, {-1, 0}, {-1, 5}, {-5, -5}, {-1, 65535}, {-1, 65536}, {-1, math.MaxInt},
		{math.MinInt, math.MinInt}, {math.MinInt, -1}, {math.MinInt, 0}, {math.MinInt, math.MaxInt},
		{1, 0}, {2, 1}, {256, 255}, {65535, 65534}, {65536, 65535}, {65537, 65536}, {70000, 65536},
		{math.MaxInt, 0}, {math.MaxInt, 65535}, {math.MaxInt, 65536}, {math.MaxInt, math.MaxInt - 1},
	}
}

// checkHolds holds the bits of a Writer against digits.
func checkHolds(t *testing.T, w *stream.Writer, want string) {
	t.Helper()
	if w.Len() != len(want) || !strings.HasPrefix(digits(w.Bytes()), want) {
		t.Fatalf("%s of %d bits are written, not %s", digits(w.Bytes()), w.Len(), want)
	}
}

// checkPut holds Put against P4.1, behind pos bits of a Writer.
func checkPut(t *testing.T, pos int, aligned bool, n int, x bounds) {
	t.Helper()
	w, s, want := writer(pos), "", answer{}
	switch {
	case x.lo < 0 || x.hi >= 0 && x.hi < x.lo || n < 0:
		want.e = api.ErrArg
	case !x.holds(n):
		want.e = api.ErrConstraint
	default:
		s, want = written(pos, aligned, n, x)
	}
	count, more, e := length.Put(w, aligned, n, x.lo, x.hi)
	if got := (answer{count, more, e}); got != want {
		t.Fatalf("%d in %v behind %d bits, aligned %v: %v, not %v", n, x, pos, aligned, got, want)
	}
	checkHolds(t, w, strings.Repeat("1", pos)+s)
}

// checkGet holds Get against P4.2, behind pos bits of b, for bounds that are
// valid.
func checkGet(t *testing.T, b []byte, pos int, aligned bool, x bounds) answer {
	t.Helper()
	model := &tape{digits(b), pos}
	want := model.length(aligned, x)
	r := at(b, pos)
	n, more, e := length.Get(r, aligned, x.lo, x.hi)
	got := answer{n, more, e}
	if got != want {
		t.Fatalf("%v behind %d bits, aligned %v, %v: %v, not %v", b, pos, aligned, x, got, want)
	}
	if e == api.OK && r.Pos() != model.pos {
		t.Fatalf("%v behind %d bits, aligned %v, %v: read to %d, not %d", b, pos, aligned, x, r.Pos(), model.pos)
	}
	return got
}

// checkGetSmall holds GetSmall against P4.3, behind pos bits of b.
func checkGetSmall(t *testing.T, b []byte, pos int, aligned bool) (int, api.Errno) {
	t.Helper()
	model := &tape{digits(b), pos}
	want, fault := model.small(aligned)
	r := at(b, pos)
	n, e := length.GetSmall(r, aligned)
	if n != want || e != fault {
		t.Fatalf("%v behind %d bits, aligned %v: %d with error %d, not %d with %d", b, pos, aligned, n, e, want, fault)
	}
	if e == api.OK && r.Pos() != model.pos {
		t.Fatalf("%v behind %d bits, aligned %v: read to %d, not %d", b, pos, aligned, r.Pos(), model.pos)
	}
	return n, e
}
