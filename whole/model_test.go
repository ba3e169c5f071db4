package whole_test

import (
	"fmt"
	"math"
	"math/big"
	"strings"
	"testing"

	"spandrel/api"
	"spandrel/stream"
	"spandrel/whole"
)

// This file says in binary digits and numbers of any size what the chapter
// says, so that it has nothing in common with the package that it tests.

// digits is octets as a text of binary digits.
func digits(b []byte) string {
	var s strings.Builder
	for _, o := range b {
		fmt.Fprintf(&s, "%08b", o)
	}
	return s.String()
}

// padded is as many zeros as lead from a position to the next multiple of 8.
func padded(pos int) string {
	return strings.Repeat("0", (8-pos%8)%8)
}

// fixed is v in width digits.
func fixed(v *big.Int, width int) string {
	s := v.Text(2)
	if v.Sign() == 0 {
		s = ""
	}
	return strings.Repeat("0", width-len(s)) + s
}

// size is the number of octets that v needs, and at least 1.
func size(v *big.Int) int {
	return max(1, (v.BitLen()+7)/8)
}

// minus is a - b.
func minus(a, b int) *big.Int {
	return new(big.Int).Sub(big.NewInt(int64(a)), big.NewInt(int64(b)))
}

// atMost tells whether v is at most limit.
func atMost(v *big.Int, limit int64) bool {
	return v.Cmp(big.NewInt(limit)) <= 0
}

// written is the digits that P3.1 asks for, behind pos bits.
func written(pos int, aligned bool, n, lo, hi int) string {
	v, top := minus(n, lo), minus(hi, lo)
	switch {
	case top.Sign() == 0:
		return ""
	case !aligned || atMost(top, 254):
		return fixed(v, top.BitLen())
	case atMost(top, 255):
		return padded(pos) + fixed(v, 8)
	case atMost(top, 65535):
		return padded(pos) + fixed(v, 16)
	}
	s := written(pos, true, size(v), 1, size(top))
	return s + padded(pos+len(s)) + fixed(v, 8*size(v))
}

// tape is digits that are read from a position on.
type tape struct {
	all string
	pos int
}

// take reads count digits as a number.
func (t *tape) take(count int) (*big.Int, api.Errno) {
	if t.pos+count > len(t.all) {
		return nil, api.ErrShort
	}
	v := new(big.Int)
	if count > 0 {
		v.SetString(t.all[t.pos:t.pos+count], 2)
	}
	t.pos += count
	return v, api.OK
}

// align reads zeros up to the next multiple of 8.
func (t *tape) align() api.Errno {
	zeros := padded(t.pos)
	if !strings.HasPrefix(t.all[t.pos:], zeros) {
		return api.ErrForm
	}
	t.pos += len(zeros)
	return api.OK
}

// read is what P3.2 asks for.
func (t *tape) read(aligned bool, lo, hi int) (int, api.Errno) {
	top := minus(hi, lo)
	v, e := t.offset(aligned, top)
	if e != api.OK {
		return 0, e
	}
	if v.Cmp(top) > 0 {
		return 0, api.ErrConstraint
	}
	return int(v.Add(v, big.NewInt(int64(lo))).Int64()), api.OK
}

// offset reads what is added to the lower bound.
func (t *tape) offset(aligned bool, top *big.Int) (*big.Int, api.Errno) {
	if !aligned || atMost(top, 254) {
		return t.take(top.BitLen())
	}
	count, width := 0, 8
	if !atMost(top, 255) {
		width = 16
	}
	if !atMost(top, 65535) {
		var e api.Errno
		if count, e = t.read(true, 1, size(top)); e != api.OK {
			return nil, e
		}
		width = 8 * count
	}
	if e := t.align(); e != api.OK {
		return nil, e
	}
	v, e := t.take(width)
	if e == api.OK && count > 0 && size(v) != count {
		return nil, api.ErrForm
	}
	return v, e
}

// bounds is two bounds.
type bounds struct{ lo, hi int }

// ranges is the ranges that the chapter names, those beside them, and both
// sides of each power of 2.
func ranges() []uint64 {
	list := []uint64{0, 1, 2, 3, 7, 99, 100, 253, 254, 255, 256, 257, 299, 65534, 65535, 65536, 65537, 100000, math.MaxUint64 - 1, math.MaxUint64}
	for i := 1; i < 64; i++ {
		p := uint64(1) << i
		list = append(list, p-1, p, p+1, p+p/3)
	}
	return list
}

// places is bounds of each range: at both ends of the ints, at 0 and about it.
func places() []bounds {
	var list []bounds
	for _, top := range ranges() {
		least, greatest := math.MinInt, int(math.MaxInt-top)
		for _, lo := range []int{least, greatest, 0, 1, -1, -1000, 1000, least/2 + greatest/2} {
			if least <= lo && lo <= greatest {
				list = append(list, bounds{lo, int(uint64(lo) + top)})
			}
		}
	}
	return list
}

// between is integers between two bounds: both ends, both sides of each power
// of 256 from the lower one on, and some in the middle.
func between(x bounds) []int {
	top := uint64(x.hi) - uint64(x.lo)
	offsets := []uint64{0, 1, 2, 127, 128, top / 3, top / 2, top - top/3}
	for i := 8; i < 64; i += 8 {
		offsets = append(offsets, 1<<i-1, 1<<i)
	}
	var list []int
	for _, v := range offsets {
		if v <= top {
			list = append(list, int(uint64(x.lo)+v), int(uint64(x.hi)-v))
		}
	}
	return list
}

// writer is a Writer that holds pos bits, all of them 1.
func writer(pos int) *stream.Writer {
	w := &stream.Writer{}
	for range pos {
		w.Put(1, 1)
	}
	return w
}

// reader is a Reader that has read pos bits of b.
func reader(t *testing.T, b []byte, pos int) *stream.Reader {
	t.Helper()
	r := stream.New(b)
	for range pos {
		if _, e := r.Get(1); e != api.OK {
			t.Fatal(e)
		}
	}
	return r
}

// packed is digits as octets, with zeros behind the last one.
func packed(s string) []byte {
	var w stream.Writer
	for _, d := range s {
		w.Put(uint64(d-'0'), 1)
	}
	return w.Bytes()
}

// checkHolds holds the bits of a Writer against digits.
func checkHolds(t *testing.T, w *stream.Writer, want string) {
	t.Helper()
	if w.Len() != len(want) || !strings.HasPrefix(digits(w.Bytes()), want) {
		t.Fatalf("%s of %d bits are written, not %s", digits(w.Bytes()), w.Len(), want)
	}
}

// checkGet holds Get against P3.2, behind pos bits of b.
func checkGet(t *testing.T, b []byte, pos int, aligned bool, x bounds) (int, api.Errno) {
	t.Helper()
	model := &tape{digits(b), pos}
	want, fault := model.read(aligned, x.lo, x.hi)
	r := reader(t, b, pos)
	n, e := whole.Get(r, aligned, x.lo, x.hi)
	if n != want || e != fault {
		t.Fatalf("%v behind %d bits, aligned %v, %v: %d with error %d, not %d with %d", b, pos, aligned, x, n, e, want, fault)
	}
	if e == api.OK && r.Pos() != model.pos {
		t.Fatalf("%v behind %d bits, aligned %v, %v: read to %d, not %d", b, pos, aligned, x, r.Pos(), model.pos)
	}
	return n, e
}
