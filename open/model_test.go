package open_test

import (
	"bytes"
	"fmt"
	"math"
	"math/big"
	"math/rand"
	"strings"
	"testing"

	"spandrel/api"
	"spandrel/open"
	"spandrel/stream"
)

// This file says in binary digits what the chapter says, with the lengths and
// the octets of the chapters below it, so that it has nothing in common with the
// package that it tests.

// both is the variants.
var both = []bool{false, true}

// spelled is each octet as binary digits.
var spelled = func() (all [256]string) {
	for i := range all {
		all[i] = fmt.Sprintf("%08b", i)
	}
	return all
}()

// digits is octets as a text of binary digits.
func digits(b []byte) string {
	var s strings.Builder
	s.Grow(8 * len(b))
	for _, o := range b {
		s.WriteString(spelled[o])
	}
	return s.String()
}

// packed is digits as octets, with zeros behind the last one.
func packed(s string) []byte {
	b := make([]byte, (len(s)+7)/8)
	for i, d := range []byte(s) {
		b[i/8] |= (d - '0') << (7 - i%8)
	}
	return b
}

// padded is as many zeros as lead from a position to the next multiple of 8, in
// the aligned variant.
func padded(pos int, aligned bool) string {
	if !aligned {
		return ""
	}
	return strings.Repeat("0", (8-pos%8)%8)
}

// form is the digits of a length, or of its first fragment, and what is told of
// the units that follow it.
func form(n int) (string, int, bool) {
	if n <= 127 {
		return fmt.Sprintf("0%07b", n), n, false
	}
	if n <= 16383 {
		return fmt.Sprintf("10%014b", n), n, false
	}
	m := 4
	for 16384*m > n {
		m--
	}
	return fmt.Sprintf("11%06b", m), 16384 * m, true
}

// counted is the digits of octets behind their number, of which there are few.
func counted(pos int, aligned bool, s string) string {
	return padded(pos, aligned) + fmt.Sprintf("0%07b", len(s)/8) + s
}

// semi is what P5.1 asks for behind pos bits, of n that is not less than lo.
func semi(pos int, aligned bool, n, lo int) string {
	s := new(big.Int).Sub(big.NewInt(int64(n)), big.NewInt(int64(lo))).Text(2)
	for len(s)%8 > 0 {
		s = "0" + s
	}
	return counted(pos, aligned, s)
}

// whatever is what P5.2 asks for behind pos bits.
func whatever(pos int, aligned bool, n int) string {
	count := 1
	for n < -1<<(8*count-1) || n > 1<<(8*count-1)-1 {
		count++
	}
	s := fmt.Sprintf("%064b", uint64(n))
	return counted(pos, aligned, s[64-8*count:])
}

// whole is what P5.3 asks for behind pos bits, of contents that are not too
// long.
func whole(pos int, aligned bool, b []byte) string {
	var s strings.Builder
	for more := true; more; {
		var head string
		var count int
		head, count, more = form(len(b))
		s.WriteString(padded(pos+s.Len(), aligned) + head)
		s.WriteString(digits(b[:count]))
		b = b[count:]
	}
	return s.String()
}

// tape is digits that are read from a position on.
type tape struct {
	all string
	pos int
}

// take reads count digits.
func (t *tape) take(count int) (string, api.Errno) {
	if t.pos+count > len(t.all) {
		return "", api.ErrShort
	}
	t.pos += count
	return t.all[t.pos-count : t.pos], api.OK
}

// number is the integer of digits.
func number(s string) *big.Int {
	v, _ := new(big.Int).SetString("0"+s, 2)
	return v
}

// length reads the length of a fragment, and whether another one follows.
func (t *tape) length(aligned bool) (int, bool, api.Errno) {
	zeros := padded(t.pos, aligned)
	if !strings.HasPrefix(t.all[t.pos:], zeros) {
		return 0, false, api.ErrForm
	}
	t.pos += len(zeros)
	s, e := t.take(8)
	if e != api.OK {
		return 0, false, e
	}
	if s[0] == '0' {
		return int(number(s).Int64()), false, api.OK
	}
	if s[1] == '1' {
		m := int(number(s[2:]).Int64())
		if m < 1 || m > 4 {
			return 0, false, api.ErrForm
		}
		return 16384 * m, true, api.OK
	}
	next, e := t.take(8)
	if e != api.OK {
		return 0, false, e
	}
	n := int(number(s[2:] + next).Int64())
	if n < 128 {
		return 0, false, api.ErrForm
	}
	return n, false, api.OK
}

// counted reads digits behind the number of their octets.
func (t *tape) counted(aligned bool) (string, api.Errno) {
	n, more, e := t.length(aligned)
	if e != api.OK {
		return "", e
	}
	if more {
		return "", api.ErrForm
	}
	return t.take(8 * n)
}

// semi is what P5.1 asks of GetSemi.
func (t *tape) semi(aligned bool, lo int) (int, api.Errno) {
	s, e := t.counted(aligned)
	switch {
	case e != api.OK:
		return 0, e
	case s == "" || len(s) > 8 && strings.HasPrefix(s, "00000000"):
		return 0, api.ErrForm
	case len(s) > 64:
		return 0, api.ErrLarge
	}
	sum := new(big.Int).Add(number(s), big.NewInt(int64(lo)))
	if sum.Cmp(big.NewInt(math.MaxInt64)) > 0 {
		return 0, api.ErrLarge
	}
	return int(sum.Int64()), api.OK
}

// whatever is what P5.2 asks of GetAny.
func (t *tape) whatever(aligned bool) (int, api.Errno) {
	s, e := t.counted(aligned)
	switch {
	case e != api.OK:
		return 0, e
	case s == "" || len(s) > 8 && (strings.HasPrefix(s, "000000000") || strings.HasPrefix(s, "111111111")):
		return 0, api.ErrForm
	case len(s) > 64:
		return 0, api.ErrLarge
	}
	v := number(s)
	if s[0] == '1' {
		v.Sub(v, new(big.Int).Lsh(big.NewInt(1), uint(len(s))))
	}
	return int(v.Int64()), api.OK
}

// whole is what P5.3 asks of GetOpen.
func (t *tape) whole(aligned bool) ([]byte, api.Errno) {
	var all strings.Builder
	last := 65536
	for more := true; more; {
		var n int
		var e api.Errno
		n, more, e = t.length(aligned)
		switch {
		case e != api.OK:
			return nil, e
		case more && last < 65536:
			return nil, api.ErrForm
		case all.Len()/8+n > 1<<20:
			return nil, api.ErrLarge
		}
		s, e := t.take(8 * n)
		if e != api.OK {
			return nil, e
		}
		all.WriteString(s)
		last = n
	}
	return packed(all.String()), api.OK
}

// writer is a Writer that holds pos bits, all of them 1.
func writer(pos int) *stream.Writer {
	w := &stream.Writer{}
	for range pos {
		w.Put(1, 1)
	}
	return w
}

// at is a Reader that has read pos bits of b, which has as many.
func at(b []byte, pos int) *stream.Reader {
	r := stream.New(b)
	for range pos {
		r.Get(1)
	}
	return r
}

// content is n octets, which are not all alike.
func content(n int) []byte {
	from, b := rand.New(rand.NewSource(int64(n))), make([]byte, n)
	from.Read(b)
	return b
}

// numbers is both sides of each power of 2, and of its opposite, the least and
// the greatest number of 64 bits among them.
func numbers() []int {
	list := []int{0, 5, 300, -5, -300, math.MinInt, math.MinInt + 1, math.MaxInt - 1, math.MaxInt}
	for i := range 63 {
		for _, n := range []int{1<<i - 1, 1 << i, 1<<i + 1} {
			list = append(list, n, -n)
		}
	}
	return list
}

// bounds is lower bounds of all magnitudes.
func bounds() []int {
	return []int{
		0, 1, -1, 5, 127, 128, 255, 256, -127, -128, -129, -256, 65536, -65536, 1 << 31, -1 << 31, 1 << 32, 1 << 55, -1 << 56,
		1 << 62, -1 << 62, math.MaxInt - 255, math.MaxInt - 1, math.MaxInt, math.MinInt, math.MinInt + 1, math.MinInt + 256,
	}
}

// shown is octets, or as many as tell them from others.
func shown(b []byte) string {
	return fmt.Sprintf("%d octets, %.40v", len(b), b)
}

// checkHolds holds the bits of a Writer against digits.
func checkHolds(t *testing.T, w *stream.Writer, want string) {
	t.Helper()
	if got := packed(want); w.Len() != len(want) || len(want) > 0 && !bytes.Equal(w.Bytes(), got) {
		t.Fatalf("%s of %d bits are written, not %s of %d", shown(w.Bytes()), w.Len(), shown(got), len(want))
	}
}

// checkPutSemi holds PutSemi against P5.1, behind pos bits of a Writer; and
// GetSemi against P5.4, whatever follows.
func checkPutSemi(t *testing.T, pos int, aligned bool, n, lo int) {
	t.Helper()
	w, s, want := writer(pos), "", api.ErrConstraint
	if n >= lo {
		s, want = semi(pos, aligned, n, lo), api.OK
	}
	if e := open.PutSemi(w, aligned, n, lo); e != want {
		t.Fatal(n, lo, pos, aligned, e, want)
	}
	checkHolds(t, w, strings.Repeat("1", pos)+s)
	if want != api.OK {
		return
	}
	w.Put(math.MaxUint64, 64)
	r := at(w.Bytes(), pos)
	if got, e := open.GetSemi(r, aligned, lo); got != n || e != api.OK || r.Pos() != pos+len(s) {
		t.Fatal(n, lo, pos, aligned, got, e, r.Pos(), pos+len(s))
	}
}

// checkPutAny holds PutAny against P5.2, behind pos bits of a Writer; and GetAny
// against P5.4, whatever follows.
func checkPutAny(t *testing.T, pos int, aligned bool, n int) {
	t.Helper()
	w, s := writer(pos), whatever(pos, aligned, n)
	if e := open.PutAny(w, aligned, n); e != api.OK {
		t.Fatal(n, pos, aligned, e)
	}
	checkHolds(t, w, strings.Repeat("1", pos)+s)
	w.Put(math.MaxUint64, 64)
	r := at(w.Bytes(), pos)
	if got, e := open.GetAny(r, aligned); got != n || e != api.OK || r.Pos() != pos+len(s) {
		t.Fatal(n, pos, aligned, got, e, r.Pos(), pos+len(s))
	}
}

// checkPutOpen holds PutOpen against P5.3, behind pos bits of a Writer; and
// GetOpen against P5.4, whatever follows.
func checkPutOpen(t *testing.T, pos int, aligned bool, b []byte) {
	t.Helper()
	w, s := writer(pos), whole(pos, aligned, b)
	if e := open.PutOpen(w, aligned, b); e != api.OK {
		t.Fatal(shown(b), pos, aligned, e)
	}
	checkHolds(t, w, strings.Repeat("1", pos)+s)
	w.Put(math.MaxUint64, 64)
	r := at(w.Bytes(), pos)
	if got, e := open.GetOpen(r, aligned); !bytes.Equal(got, b) || e != api.OK || r.Pos() != pos+len(s) {
		t.Fatal(shown(b), pos, aligned, shown(got), e, r.Pos(), pos+len(s))
	}
}

// checkGetSemi holds GetSemi against P5.1, behind pos bits of b; and that an
// integer that was read has no other bits than those that were read.
func checkGetSemi(t *testing.T, b []byte, pos int, aligned bool, lo int) (int, api.Errno) {
	t.Helper()
	model := &tape{digits(b), pos}
	want, fault := model.semi(aligned, lo)
	r := at(b, pos)
	n, e := open.GetSemi(r, aligned, lo)
	if n != want || e != fault || e == api.OK && r.Pos() != model.pos {
		t.Fatal(shown(b), pos, aligned, lo, n, e, r.Pos(), want, fault, model.pos)
	}
	if e == api.OK && semi(pos, aligned, n, lo) != model.all[pos:model.pos] {
		t.Fatal(shown(b), pos, aligned, lo, n)
	}
	return n, e
}

// checkGetAny holds GetAny against P5.2, behind pos bits of b; and that an
// integer that was read has no other bits than those that were read.
func checkGetAny(t *testing.T, b []byte, pos int, aligned bool) (int, api.Errno) {
	t.Helper()
	model := &tape{digits(b), pos}
	want, fault := model.whatever(aligned)
	r := at(b, pos)
	n, e := open.GetAny(r, aligned)
	if n != want || e != fault || e == api.OK && r.Pos() != model.pos {
		t.Fatal(shown(b), pos, aligned, n, e, r.Pos(), want, fault, model.pos)
	}
	if e == api.OK && whatever(pos, aligned, n) != model.all[pos:model.pos] {
		t.Fatal(shown(b), pos, aligned, n)
	}
	return n, e
}

// checkGetOpen holds GetOpen against P5.3, behind pos bits of b; and that octets
// that were read have no other bits than those that were read.
func checkGetOpen(t *testing.T, b []byte, pos int, aligned bool) ([]byte, api.Errno) {
	t.Helper()
	model := &tape{digits(b), pos}
	want, fault := model.whole(aligned)
	r := at(b, pos)
	got, e := open.GetOpen(r, aligned)
	if !bytes.Equal(got, want) || e != fault || e == api.OK && r.Pos() != model.pos || e != api.OK && got != nil {
		t.Fatal(shown(b), pos, aligned, shown(got), e, r.Pos(), shown(want), fault, model.pos)
	}
	if e == api.OK && whole(pos, aligned, got) != model.all[pos:model.pos] {
		t.Fatal(shown(b), pos, aligned, shown(got))
	}
	return got, e
}
