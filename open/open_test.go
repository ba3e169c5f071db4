package open_test

import (
	"bytes"
	"fmt"
	"math"
	"math/rand"
	"slices"
	"strings"
	"testing"

	"spandrel/api"
	"spandrel/open"
	"spandrel/stream"
)

// sizes is the numbers of octets that the chapter names, and those beside them;
// both sides of each number of pieces.
func sizes() []int {
	list := []int{
		0, 1, 2, 5, 126, 127, 128, 129, 255, 256, 70000, 16383 + 65536, 65536 + 127, 65536 + 128, 131072 + 16384, 200000, 524288,
		1<<20 - 65537, 1<<20 - 65536, 1<<20 - 16384, 1<<20 - 1, 1 << 20,
	}
	for m := 1; m <= 9; m++ {
		list = append(list, 16384*m-1, 16384*m, 16384*m+1)
	}
	return list
}

// places is the places in an octet at which n octets are tested: the first two
// alone, if they are many.
func places(n int, list ...int) []int {
	if n > 200000 {
		return list[:2]
	}
	return list
}

// P5.3, P5.4: contents of each number of octets, in both variants, at some places
// in an octet.
func TestOpen(t *testing.T) {
	for _, n := range sizes() {
		b := content(n)
		for _, pos := range places(n, 3, 8, 0, 15) {
			for _, aligned := range both {
				checkPutOpen(t, pos, aligned, b)
			}
		}
	}
	checkPutOpen(t, 5, true, nil)
	checkPutOpen(t, 5, false, nil)
}

// P5.3, P5.4: contents of all numbers of octets of which there are few.
func TestOpenAll(t *testing.T) {
	for n := range 600 {
		for pos := range 9 {
			checkPutOpen(t, pos, n%2 == 0, content(n))
		}
	}
	for n := 600; n < 17000; n += 97 {
		checkPutOpen(t, n%9, n%2 == 0, content(n))
	}
}

// piece is the octets of a length, and how many octets stand behind it.
type piece struct {
	head  []byte
	count int
}

func none() piece  { return piece{[]byte{0}, 0} }
func last() piece  { return piece{[]byte{191, 255}, 16383} }
func one() piece   { return piece{[]byte{193}, 16384} }
func two() piece   { return piece{[]byte{194}, 32768} }
func three() piece { return piece{[]byte{195}, 49152} }
func four() piece  { return piece{[]byte{196}, 65536} }

// fragments is m fragments of 65536 octets.
func fragments(m int) []piece {
	return slices.Repeat([]piece{four()}, m)
}

// P5.3: the lengths behind the bits 111, spelled out by hand.
func TestOpenRows(t *testing.T) {
	for _, x := range []struct {
		n      int
		pieces []piece
	}{
		{0, []piece{none()}},
		{1, []piece{{[]byte{1}, 1}}},
		{2, []piece{{[]byte{2}, 2}}},
		{127, []piece{{[]byte{127}, 127}}},
		{128, []piece{{[]byte{128, 128}, 128}}},
		{16383, []piece{last()}},
		{16384, []piece{one(), none()}},
		{16385, []piece{one(), {[]byte{1}, 1}}},
		{32767, []piece{one(), last()}},
		{32768, []piece{two(), none()}},
		{49152, []piece{three(), none()}},
		{65535, []piece{three(), last()}},
		{65536, []piece{four(), none()}},
		{65537, []piece{four(), {[]byte{1}, 1}}},
		{65536 + 127, []piece{four(), {[]byte{127}, 127}}},
		{65536 + 128, []piece{four(), {[]byte{128, 128}, 128}}},
		{65536 + 16384, []piece{four(), one(), none()}},
		{131071, []piece{four(), three(), last()}},
		{131072, []piece{four(), four(), none()}},
		{131072 + 49157, []piece{four(), four(), three(), {[]byte{5}, 5}}},
		{1 << 20, append(fragments(16), none())},
	} {
		b := content(x.n)
		var all []byte
		from := 0
		for _, p := range x.pieces {
			all = append(append(all, p.head...), b[from:from+p.count]...)
			from += p.count
		}
		if from != x.n {
			t.Fatal("a row is wrong:", x.n, from)
		}
		for _, aligned := range both {
			want := row(aligned, all)
			w := writer(3)
			if e := open.PutOpen(w, aligned, b); e != api.OK {
				t.Fatal(x.n, aligned, e)
			}
			checkHolds(t, w, want)
			r := at(packed(want), 3)
			if got, e := open.GetOpen(r, aligned); !bytes.Equal(got, b) || e != api.OK || r.Pos() != len(want) {
				t.Fatal(x.n, aligned, shown(got), e, r.Pos())
			}
		}
	}
}

// P5.3: the chapter's example, at the first bit.
func TestOpenExample(t *testing.T) {
	for _, aligned := range both {
		w := &stream.Writer{}
		if e := open.PutOpen(w, aligned, []byte{7, 8}); e != api.OK || !bytes.Equal(w.Bytes(), []byte{2, 7, 8}) || w.Len() != 24 {
			t.Fatal(aligned, e, w.Bytes(), w.Len())
		}
		r := stream.New([]byte{2, 7, 8})
		if b, e := open.GetOpen(r, aligned); !bytes.Equal(b, []byte{7, 8}) || e != api.OK || r.End() != api.OK {
			t.Fatal(aligned, b, e, r.End())
		}
	}
}

// P5.3: too many octets, of which nothing is written, nor aligned.
func TestPutOpenLarge(t *testing.T) {
	all := make([]byte, 3<<20)
	for _, n := range []int{1<<20 + 1, 1<<20 + 2, 1<<20 + 16383, 1<<20 + 16384, 1<<20 + 65536, 2 << 20, 3 << 20} {
		for pos := range 9 {
			for _, aligned := range both {
				w := writer(pos)
				if e := open.PutOpen(w, aligned, all[:n]); e != api.ErrLarge {
					t.Fatal(n, pos, aligned, e)
				}
				checkHolds(t, w, strings.Repeat("1", pos))
			}
		}
	}
}

// P5.3: a nil Writer, and a nil Reader, before all else.
func TestOpenNil(t *testing.T) {
	for _, aligned := range both {
		for _, n := range append(sizes(), 1<<20+1) {
			if e := open.PutOpen(nil, aligned, make([]byte, n)); e != api.ErrArg {
				t.Fatal(n, aligned, e)
			}
		}
		if b, e := open.GetOpen(nil, aligned); b != nil || e != api.ErrArg {
			t.Fatal(aligned, b, e)
		}
	}
}

// fragmented is pieces, one behind the other, and the error that is in them.
type fragmented struct {
	pieces []piece
	e      api.Errno
}

// wrongLengths is pieces of which one has no length, or a wrong one.
func wrongLengths() []fragmented {
	return []fragmented{
		{nil, api.ErrShort},
		{[]piece{{[]byte{128}, 0}}, api.ErrShort},
		{[]piece{{[]byte{128, 127}, 127}}, api.ErrForm},
		{[]piece{{[]byte{192}, 0}}, api.ErrForm},
		{[]piece{{[]byte{197}, 81920}}, api.ErrForm},
		{[]piece{{[]byte{255}, 0}}, api.ErrForm},
		{[]piece{one()}, api.ErrShort},
		{[]piece{four()}, api.ErrShort},
		{[]piece{four(), {[]byte{128}, 0}}, api.ErrShort},
		{[]piece{four(), {[]byte{128, 127}, 127}}, api.ErrForm},
		{[]piece{four(), {[]byte{192}, 0}}, api.ErrForm},
		{[]piece{four(), {[]byte{197}, 81920}}, api.ErrForm},
		{[]piece{one(), {[]byte{192}, 0}}, api.ErrForm},
	}
}

// wrongOrders is pieces of which a fragment stands behind one that is less than
// the greatest, which is told before its octets are read; and the neighbours
// that are right, behind the last length of which nothing is read.
func wrongOrders() []fragmented {
	return []fragmented{
		{[]piece{one(), one(), none()}, api.ErrForm},
		{[]piece{one(), one()}, api.ErrForm},
		{[]piece{one(), {[]byte{193}, 0}}, api.ErrForm},
		{[]piece{one(), {[]byte{193}, 100}}, api.ErrForm},
		{[]piece{one(), two(), none()}, api.ErrForm},
		{[]piece{one(), four(), none()}, api.ErrForm},
		{[]piece{two(), one(), none()}, api.ErrForm},
		{[]piece{two(), two(), none()}, api.ErrForm},
		{[]piece{three(), one(), none()}, api.ErrForm},
		{[]piece{three(), four(), none()}, api.ErrForm},
		{[]piece{three(), {[]byte{196}, 0}}, api.ErrForm},
		{[]piece{four(), one(), one(), none()}, api.ErrForm},
		{[]piece{four(), three(), one(), none()}, api.ErrForm},
		{[]piece{four(), three(), four(), none()}, api.ErrForm},
		{[]piece{one(), none()}, api.OK},
		{[]piece{one(), last()}, api.OK},
		{[]piece{three(), last()}, api.OK},
		{[]piece{four(), one(), none()}, api.OK},
		{[]piece{four(), four(), none()}, api.OK},
		{[]piece{four(), four(), three(), last()}, api.OK},
		{[]piece{none(), {[]byte{193}, 0}}, api.OK},
		{[]piece{{[]byte{1}, 1}, {[]byte{192}, 0}}, api.OK},
		{[]piece{one(), none(), one()}, api.OK},
	}
}

// tooFew is pieces of which one has too few octets.
func tooFew() []fragmented {
	return []fragmented{
		{[]piece{{[]byte{1}, 0}}, api.ErrShort},
		{[]piece{{[]byte{127}, 126}}, api.ErrShort},
		{[]piece{{[]byte{191, 255}, 16382}}, api.ErrShort},
		{[]piece{{[]byte{193}, 0}}, api.ErrShort},
		{[]piece{{[]byte{193}, 16383}}, api.ErrShort},
		{[]piece{{[]byte{196}, 65535}}, api.ErrShort},
		{[]piece{four(), {[]byte{193}, 16383}}, api.ErrShort},
		{[]piece{four(), {[]byte{2}, 1}}, api.ErrShort},
	}
}

// tooMany is pieces that have too many octets in total, which is told before
// they are read, but behind what is wrong with their length; and the neighbours
// that are right, or have another error.
func tooMany() []fragmented {
	return []fragmented{
		{append(fragments(16), none()), api.OK},
		{append(fragments(15), three(), last()), api.OK},
		{append(fragments(16), piece{[]byte{1}, 1}), api.ErrLarge},
		{append(fragments(16), piece{[]byte{1}, 0}), api.ErrLarge},
		{append(fragments(16), last()), api.ErrLarge},
		{append(fragments(16), one(), none()), api.ErrLarge},
		{append(fragments(16), piece{[]byte{193}, 0}), api.ErrLarge},
		{append(fragments(16), four(), none()), api.ErrLarge},
		{append(fragments(16), piece{[]byte{196}, 0}), api.ErrLarge},
		{append(fragments(16), piece{[]byte{192}, 0}), api.ErrForm},
		{append(fragments(16), piece{[]byte{128, 1}, 0}), api.ErrForm},
		{fragments(16), api.ErrShort},
		{append(fragments(15), one(), four()), api.ErrForm},
		{append(fragments(15), three(), piece{[]byte{194}, 0}), api.ErrForm},
		{append(fragments(15), piece{[]byte{196}, 65535}), api.ErrShort},
	}
}

// P5.3: the first error that occurs in fragments, one behind the other, with no
// octets beside it; and the neighbours that are right.
func TestGetOpenFaults(t *testing.T) {
	for i, x := range slices.Concat(wrongLengths(), wrongOrders(), tooFew(), tooMany()) {
		var all []byte
		for _, p := range x.pieces {
			all = append(append(all, p.head...), content(p.count)...)
		}
		for _, aligned := range both {
			for _, pos := range places(len(all), 5, 8, 0) {
				s := strings.Repeat("1", pos) + padded(pos, aligned) + digits(all)
				if len(s)%8 > 0 && x.e == api.ErrShort {
					// Bits behind the last octet would be zeros.
					continue
				}
				if _, e := checkGetOpen(t, packed(s), pos, aligned); e != x.e {
					t.Errorf("row %d: %s behind %d bits, aligned %v: error %d, not %d", i, shown(all), pos, aligned, e, x.e)
				}
			}
		}
	}
}

// P5.3: octets that end at each place in a short content, and at some places in
// long ones.
func TestGetOpenShort(t *testing.T) {
	for _, n := range []int{0, 1, 2, 127, 128, 300, 16384, 16385, 16384 + 128, 65536, 65537, 70000, 1 << 20} {
		for _, pos := range []int{0, 3, 8} {
			for _, aligned := range both {
				w := writer(pos)
				open.PutOpen(w, aligned, content(n))
				b, first := w.Bytes(), (pos+7)/8
				for kept := first; 8*kept < w.Len(); kept++ {
					near := kept-first < 3 || len(b)-kept < 4 || kept%16384 < 3 || 16384-kept%16384 < 3
					if n > 300 && (n > 70000 || !near) && kept != len(b)/2 && kept < len(b)-2 {
						continue
					}
					if got, e := checkGetOpen(t, b[:kept], pos, aligned); got != nil || e != api.ErrShort {
						t.Fatal(n, pos, aligned, kept, shown(got), e)
					}
				}
			}
		}
	}
}

// P5.3: padding that is not zero, at each of its bits, ahead of all that is read
// behind it; what is not aligned has none.
func TestGetOpenPadding(t *testing.T) {
	for pos := 1; pos < 16; pos++ {
		ones, zeros := strings.Repeat("1", pos), padded(pos, true)
		for i := range len(zeros) {
			for _, more := range []string{"", "00000000", "0000000100000101", "11000001", "11000101"} {
				b := packed(ones + zeros[:i] + "1" + zeros[i+1:] + more)
				if got, e := checkGetOpen(t, b, pos, true); got != nil || e != api.ErrForm {
					t.Fatal(pos, i, more, got, e)
				}
			}
		}
		b := packed(ones + "00000001" + "11111111" + "111111")
		if got, e := checkGetOpen(t, b, pos, false); !bytes.Equal(got, []byte{255}) || e != api.OK {
			t.Fatal(pos, got, e)
		}
	}
}

// P5.3: all short octets, and random ones of which there are many, are refused,
// or are the contents that they are.
func TestGetOpenArbitrary(t *testing.T) {
	for v := range 1 << 16 {
		high, low := byte(v>>8), byte(v)
		checkGetOpen(t, []byte{high, low}, v%9, v%3 > 0)
		checkGetOpen(t, []byte{1, 2, high, low}, v%17, v%3 > 0)
	}
	from, long := rand.New(rand.NewSource(9)), content(200000)
	for range 300 {
		// A few lengths among octets: at the places where they are read.
		b := slices.Clone(long[:from.Intn(len(long))])
		for at := 0; at < len(b); {
			m := 1 + from.Intn(4)
			b[at] = byte(192 + m)
			if from.Intn(4) == 0 {
				b[at] = byte(from.Intn(256))
			}
			at += 1 + 16384*m
		}
		checkGetOpen(t, b, 0, from.Intn(2) > 0)
	}
}

// R3: the octets that are written are neither changed nor kept; those that are
// read are new.
func TestOpenKeepsNothing(t *testing.T) {
	for _, n := range []int{0, 5, 300, 16384, 70000} {
		for _, aligned := range both {
			b := content(n)
			w := writer(3)
			open.PutOpen(w, aligned, b)
			if !bytes.Equal(b, content(n)) {
				t.Fatal(n, aligned, "changed")
			}
			written := w.Bytes()
			for i := range b {
				b[i] ^= 255
			}
			if !bytes.Equal(w.Bytes(), written) {
				t.Fatal(n, aligned, "kept")
			}
			first, _ := open.GetOpen(at(written, 3), aligned)
			for i := range first {
				first[i] ^= 255
			}
			if second, e := open.GetOpen(at(written, 3), aligned); !bytes.Equal(second, content(n)) || e != api.OK {
				t.Fatal(n, aligned, "shared")
			}
		}
	}
}

// P5.4: integers and contents, one behind the other.
func TestSequence(t *testing.T) {
	from, all, lows := rand.New(rand.NewSource(10)), numbers(), bounds()
	for range 300 {
		var w stream.Writer
		var calls []func(r *stream.Reader) string
		aligned := from.Intn(2) == 0
		for range 20 {
			n, lo := all[from.Intn(len(all))], lows[from.Intn(len(lows))]
			b := content(from.Intn(300))
			if from.Intn(50) == 0 {
				b = content(16384 * (1 + from.Intn(5)))
			}
			kind := from.Intn(4)
			switch kind {
			case 0:
				n = max(n, lo)
				open.PutSemi(&w, aligned, n, lo)
			case 1:
				open.PutAny(&w, aligned, n)
			case 2:
				open.PutOpen(&w, aligned, b)
			case 3:
				w.Put(1, 1)
			}
			end := w.Len()
			calls = append(calls, func(r *stream.Reader) string {
				got, again, e := n, b, api.OK
				switch kind {
				case 0:
					got, e = open.GetSemi(r, aligned, lo)
				case 1:
					got, e = open.GetAny(r, aligned)
				case 2:
					again, e = open.GetOpen(r, aligned)
				case 3:
					r.Get(1)
				}
				if got != n || !bytes.Equal(again, b) || e != api.OK || r.Pos() != end {
					return fmt.Sprint(kind, aligned, n, lo, got, shown(b), shown(again), e, r.Pos(), end)
				}
				return ""
			})
		}
		r := stream.New(w.Bytes())
		for _, call := range calls {
			if s := call(r); s != "" {
				t.Fatal(s)
			}
		}
		if r.End() != api.OK {
			t.Fatal(r.End())
		}
	}
}

// P1, P5.1 to P5.4: whatever octets and integers there are, each call answers
// what the chapter asks for.
func FuzzOpen(f *testing.F) {
	f.Add([]byte{2, 1, 43}, 0, true, 300, 1)
	f.Add([]byte{224, 1, 255}, 3, true, -1, math.MinInt)
	f.Add([]byte{2, 7, 8}, 0, false, math.MaxInt, math.MinInt)
	f.Add([]byte{193}, 0, false, 0, 0)
	f.Add(content(70000), 0, true, 128, -1)
	f.Fuzz(func(t *testing.T, b []byte, pos int, aligned bool, n, lo int) {
		pos = min(max(pos, 0)%17, 8*len(b))
		checkPutSemi(t, pos, aligned, n, lo)
		checkPutAny(t, pos, aligned, n)
		if len(b) <= api.MaxLength {
			checkPutOpen(t, pos, aligned, b)
		}
		checkGetSemi(t, b, pos, aligned, lo)
		checkGetAny(t, b, pos, aligned)
		checkGetOpen(t, b, pos, aligned)
	})
}
