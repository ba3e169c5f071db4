package strings_test

import (
	"bytes"
	"math"
	"math/rand"
	"slices"
	"strings"
	"testing"

	"spandrel/api"
	"spandrel/stream"
	under "spandrel/strings"
)

// fragmented is fragments, one behind the other, and the error that is in them
// where the bounds are 0 and none.
type fragmented struct {
	fragments []fragment
	e         api.Errno
}

// wrongLengths is fragments of which one has no length, or a wrong one.
func wrongLengths() []fragmented {
	return []fragmented{
		{nil, api.ErrShort},
		{[]fragment{{"10000000", 0}}, api.ErrShort},
		{[]fragment{{"1000000001111111", 127}}, api.ErrForm},
		{[]fragment{{"11000000", 0}}, api.ErrForm},
		{[]fragment{{"11000101", 81920}}, api.ErrForm},
		{[]fragment{{"11111111", 0}}, api.ErrForm},
		{[]fragment{one()}, api.ErrShort},
		{[]fragment{four(), {"10000000", 0}}, api.ErrShort},
		{[]fragment{four(), {"1000000001111111", 127}}, api.ErrForm},
		{[]fragment{four(), {"11000000", 0}}, api.ErrForm},
		{[]fragment{one(), {"11000101", 0}}, api.ErrForm},
	}
}

// wrongOrders is fragments of which one stands behind another that is less than
// the greatest, which is told before its units are read; and the neighbours that
// are right, behind the last length of which nothing is read.
func wrongOrders() []fragmented {
	return []fragmented{
		{[]fragment{one(), one(), none()}, api.ErrForm},
		{[]fragment{one(), {"11000001", 0}}, api.ErrForm},
		{[]fragment{one(), four(), none()}, api.ErrForm},
		{[]fragment{two(), two(), none()}, api.ErrForm},
		{[]fragment{three(), {"11000100", 0}}, api.ErrForm},
		{[]fragment{four(), three(), one(), none()}, api.ErrForm},
		{[]fragment{one(), none()}, api.OK},
		{[]fragment{three(), last()}, api.OK},
		{[]fragment{four(), one(), none()}, api.OK},
		{[]fragment{four(), four(), three(), last()}, api.OK},
		{[]fragment{none(), {"11000001", 0}}, api.OK},
		{[]fragment{{"00000001", 1}, {"11000000", 0}}, api.OK},
	}
}

// tooMany is fragments that have too many units in total, which is told before
// they are read, but behind what is wrong with their length; and the neighbours
// that are right, or have another error.
func tooMany() []fragmented {
	return []fragmented{
		{append(fours(16), none()), api.OK},
		{append(fours(15), three(), last()), api.OK},
		{append(fours(16), fragment{"00000001", 1}), api.ErrLarge},
		{append(fours(16), fragment{"00000001", 0}), api.ErrLarge},
		{append(fours(16), last()), api.ErrLarge},
		{append(fours(16), fragment{"11000001", 0}), api.ErrLarge},
		{append(fours(16), fragment{"11000100", 0}), api.ErrLarge},
		{append(fours(16), fragment{"11000000", 0}), api.ErrForm},
		{append(fours(16), fragment{"1000000000000001", 0}), api.ErrForm},
		{append(fours(15), one(), four()), api.ErrForm},
		{append(fours(15), three(), fragment{"11000010", 0}), api.ErrForm},
	}
}

// spell is fragments of units of a kind behind pos bits.
func spell(k kind, pos int, aligned bool, fragments []fragment) string {
	var s strings.Builder
	s.WriteString(ones(pos))
	for _, f := range fragments {
		s.WriteString(padded(s.Len(), aligned) + f.head + k.spell(aligned, k.content(f.count)))
	}
	return s.String()
}

// P6.3: the first error that occurs in fragments, one behind the other; and the
// neighbours that are right.
func TestGetFragments(t *testing.T) {
	for i, x := range slices.Concat(wrongLengths(), wrongOrders(), tooMany()) {
		tested := []kind{bits, text("a"), text("abc"), octets}
		if len(x.fragments) > 5 {
			tested = tested[:2]
		}
		for _, k := range tested {
			for _, aligned := range both {
				pos := i % 9
				if x.e == api.ErrShort {
					// Bits behind the last octet would be zeros.
					pos = 8
				}
				b := packed(spell(k, pos, aligned, x.fragments))
				if _, e := checkGet(t, k, b, pos, aligned, 0, -1); e != x.e {
					t.Errorf("row %d: %q, aligned %v: error %d, not %d", i, k, aligned, e, x.e)
				}
			}
		}
	}
}

// P6.3: what is told at the end is not told where another error occurs before:
// neither that there are too many units or too few, nor that one of them is none
// of a character.
func TestGetOrder(t *testing.T) {
	abc := text("abc")
	wrong := strings.Repeat("11", 16384)
	for i, x := range []struct {
		k      kind
		lo, hi int
		s      string
		e      api.Errno
	}{
		// The units of the last fragment are missing, or its length is.
		{octets, 0, 65536, "11000100" + strings.Repeat("1", 8*65536) + "00000010" + "11111111", api.ErrShort},
		{octets, 0, 65536, "11000100" + strings.Repeat("1", 8*65536) + "11000000", api.ErrForm},
		{octets, 0, 65536, "11000100" + strings.Repeat("1", 8*65536), api.ErrShort},
		{octets, 0, 65536, "11000100" + strings.Repeat("1", 8*65536) + "00000001" + "11111111", api.ErrConstraint},
		{octets, 0, 65536, "11000100" + strings.Repeat("1", 8*65536) + "00000000", api.OK},
		{octets, 4, -1, "00000011" + "1111111111111111", api.ErrShort},
		{octets, 4, -1, "00000011" + "111111111111111111111111", api.ErrConstraint},
		{octets, 4, 65536, "00000011" + "111111111111111111111111", api.ErrConstraint},
		{octets, 3, 65536, "00000011" + "111111111111111111111111", api.OK},
		{octets, math.MaxInt, -1, "00000011" + "1111111111111111", api.ErrShort},
		{octets, math.MaxInt, -1, "00000011" + "111111111111111111111111", api.ErrConstraint},
		{octets, 16385, -1, "11000001" + strings.Repeat("1", 8*16384) + "00000000", api.ErrConstraint},
		{octets, 16385, -1, "11000001" + strings.Repeat("1", 8*16384) + "00000001" + "11111111", api.OK},
		{bits, 4, -1, "00000011" + "11100000", api.ErrConstraint},
		{bits, 65537, -1, "11000100" + strings.Repeat("1", 65536) + "00000000", api.ErrConstraint},
		{bits, 65537, 65537, "11000100" + strings.Repeat("1", 65536) + "00000001" + "10000000", api.OK},

		// The unit 11 is none of a character of three.
		{abc, 0, -1, "00000100" + "00011011", api.ErrConstraint},
		{abc, 0, -1, "00000100" + "00011010", api.OK},
		{abc, 0, -1, "00001000" + "00011011", api.ErrShort},
		{abc, 0, -1, "11000001" + wrong + "00000000", api.ErrConstraint},
		{abc, 0, -1, "11000001" + wrong + "11000001" + wrong + "00000000", api.ErrForm},
		{abc, 0, -1, "11000001" + wrong + "00001000" + "00011010", api.ErrShort},
		{abc, 0, -1, "11000001" + wrong, api.ErrShort},
		{abc, 4, 4, "00011011", api.ErrConstraint},
		{abc, 8, 8, "00011011", api.ErrShort},
		{abc, 4, 4, "00011010", api.OK},
	} {
		for _, aligned := range both {
			if got, e := checkGet(t, x.k, packed(x.s), 0, aligned, x.lo, x.hi); e != x.e {
				t.Errorf("row %d, aligned %v: %s, error %d, not %d", i, aligned, shown(got), e, x.e)
			}
		}
	}
}

// P6.3: lengths between narrow bounds that are greater than these, before the
// units that would follow them.
func TestGetNarrow(t *testing.T) {
	for _, k := range kinds() {
		for _, x := range []struct {
			lo, hi int
			b      []byte
		}{
			{0, 2, []byte{192}}, {0, 2, []byte{255, 255, 255, 255, 255}}, {1, 6, []byte{192}}, {1, 6, []byte{224}},
			{5, 1000, []byte{255, 255}}, {0, 256, []byte{255, 255}}, {0, 65534, []byte{255, 255}}, {1, 65535, []byte{255, 255}},
		} {
			for _, aligned := range both {
				if s, e := checkGet(t, k, x.b, 0, aligned, x.lo, x.hi); s != "" || e != api.ErrConstraint {
					t.Fatal(k, x, aligned, s, e)
				}
			}
		}
	}
}

// P6.3: padding that is not zero, at each of its bits: ahead of a length, ahead
// of units, and where the size is fixed; what is not aligned has none.
func TestGetPadding(t *testing.T) {
	for _, x := range []struct {
		k      kind
		lo, hi int
		head   string
		n      int
	}{
		{octets, 0, -1, ".00000001", 1}, {octets, 0, 255, ".00000001", 1}, {octets, 0, 3, "01.", 1}, {octets, 3, 3, ".", 3}, {octets, 0, 1, "1.", 1},
		{bits, 0, -1, ".00000001", 1}, {bits, 0, 65535, ".0000000000000001", 1}, {bits, 0, 3, "01.", 1}, {bits, 17, 17, ".", 17}, {bits, 0, 1, "1.", 1},
		{text(""), 0, -1, ".00000001", 1}, {text(""), 0, 2, "01.", 1}, {text(""), 3, 3, ".", 3}, {text("ab"), 0, 16, "00001.", 1},
		{text("ab"), 17, 17, ".", 17}, {text("abc"), 1, 8, "000.", 1}, {text("a"), 0, 65536, ".00000001", 1}, {text("a"), 0, 300, ".0000000000000001", 1},
	} {
		head, tail, _ := strings.Cut(x.head, ".")
		units := x.k.spell(true, x.k.content(x.n))
		for pos := range 17 {
			zeros := padded(pos+len(head), true)
			good := ones(pos) + head + zeros + tail + units
			if s, e := checkGet(t, x.k, packed(good), pos, true, x.lo, x.hi); s != x.k.content(x.n) || e != api.OK {
				t.Fatal(x, pos, s, e)
			}
			for i := range len(zeros) {
				for _, more := range []string{"", tail + units} {
					b := packed(ones(pos) + head + zeros[:i] + "1" + zeros[i+1:] + more)
					if s, e := checkGet(t, x.k, b, pos, true, x.lo, x.hi); s != "" || e != api.ErrForm {
						t.Fatal(x, pos, i, more, s, e)
					}
				}
			}
			checkGet(t, x.k, packed(ones(pos)+head+"1111111"+tail+units), pos, false, x.lo, x.hi)
		}
	}
}

// P6.3: what has no Align ahead of it begins at once, whatever the bits are.
func TestGetUnaligned(t *testing.T) {
	for _, x := range []struct {
		k      kind
		lo, hi int
		s      string
	}{
		{octets, 2, 2, "1111111111111110"}, {octets, 1, 1, "11111111"}, {bits, 16, 16, "1111111111111111"}, {bits, 1, 1, "1"},
		{text(""), 2, 2, "0111111101111111"}, {text(""), 0, 1, "101111111"}, {text("ab"), 16, 16, "1111111111111111"},
		{text("ab"), 0, 15, "00011"}, {text("abc"), 0, 7, "00110"}, {text("a"), 0, 7, "111"}, {octets, 0, 7, "000"}, {bits, 0, 7, "000"},
		{text(""), 0, 7, "000"}, {octets, 0, 0, ""}, {bits, 0, 0, ""}, {text(""), 0, 0, ""},
	} {
		for pos := range 9 {
			b := packed(ones(pos) + x.s + "11111111")
			r := at(b, pos)
			if s, e := x.k.get(r, true, x.lo, x.hi); e != api.OK || r.Pos() != pos+len(x.s) {
				t.Fatal(x, pos, s, e, r.Pos())
			}
			checkGet(t, x.k, b, pos, true, x.lo, x.hi)
		}
	}
}

// P6.3: octets that end at each place in a string, of which there is too little.
func TestGetShort(t *testing.T) {
	for _, k := range kinds() {
		for _, x := range append(sizes(), size{16384, 0, -1}, size{16385, 0, -1}, size{65537, 0, -1}, size{65535, 65535, 65535}) {
			for _, aligned := range both {
				w := writer(8)
				k.put(w, aligned, k.content(x.n), x.lo, x.hi)
				b := w.Bytes()
				for kept := 1; 8*kept < w.Len(); kept++ {
					if near := kept < 5 || len(b)-kept < 4; !near && (len(b) > 1000 || kept%7 > 0) {
						continue
					}
					if s, e := checkGet(t, k, b[:kept], 8, aligned, x.lo, x.hi); s != "" || e != api.ErrShort {
						t.Fatal(k, x, aligned, kept, shown(s), e)
					}
				}
			}
		}
	}
}

// P6.3: a nil Reader, bounds that are not valid, before all else, and with
// nothing read.
func TestGetWrong(t *testing.T) {
	for _, k := range append(kinds(), text("ba"), text("\x80")) {
		for _, aligned := range both {
			for _, x := range append(sizes(), size{0, -1, 5}, size{0, 5, 4}) {
				if s, e := k.get(nil, aligned, x.lo, x.hi); s != "" || e != api.ErrArg {
					t.Fatal(k, x, aligned, s, e)
				}
			}
			for _, x := range []size{{0, -1, 5}, {0, -1, -1}, {0, 5, 4}, {0, 1, 0}, {0, math.MinInt, math.MaxInt}, {0, math.MaxInt, 65536}, {0, -3, -3}} {
				for _, b := range [][]byte{nil, {0}, {255, 255}, {2, 1, 1}} {
					r := at(b, min(1, len(b)))
					if s, e := k.get(r, aligned, x.lo, x.hi); s != "" || e != api.ErrArg || r.Pos() != min(1, len(b)) {
						t.Fatal(k, x, b, aligned, s, e)
					}
				}
			}
		}
	}
}

// P6.3: the octets beside an error are nil.
func TestGetNothing(t *testing.T) {
	for _, x := range []struct {
		b      []byte
		lo, hi int
		e      api.Errno
	}{
		{[]byte{1, 1}, 5, 4, api.ErrArg}, {[]byte{3, 1, 1}, 0, -1, api.ErrShort}, {[]byte{1}, 2, 2, api.ErrShort}, {[]byte{2, 1, 1}, 3, -1, api.ErrConstraint},
		{[]byte{192, 1}, 0, -1, api.ErrForm}, {[]byte{255}, 0, 2, api.ErrConstraint}, {[]byte{96, 1}, 0, 3, api.ErrForm},
	} {
		if b, e := under.GetOctets(stream.New(x.b), true, x.lo, x.hi); b != nil || e != x.e {
			t.Error(x, b, e)
		}
	}
	if b, e := under.GetOctets(nil, true, 0, -1); b != nil || e != api.ErrArg {
		t.Error(b, e)
	}
}

// P6.3: all short octets, and random ones of which there are many, are refused,
// or are the strings that they are.
func TestGetArbitrary(t *testing.T) {
	all, bounds := kinds(), sizes()
	for v := range 1 << 16 {
		high, low := byte(v>>8), byte(v)
		k, x := all[v%len(all)], bounds[v%len(bounds)]
		checkGet(t, k, []byte{high, low}, v%9, v%5 > 1, x.lo, x.hi)
		checkGet(t, k, []byte{high, low, low, high, low}, v%17, v%5 > 1, x.lo, x.hi)
	}
	from := rand.New(rand.NewSource(9))
	for range 100 {
		// A few lengths among octets: at the places where they are read.
		b := make([]byte, from.Intn(200000))
		from.Read(b)
		k := []kind{octets, bits, text("a"), text("ab"), text("")}[from.Intn(5)]
		for at := 0; at < len(b); {
			m := 1 + from.Intn(4)
			b[at] = byte(192 + m)
			if from.Intn(4) == 0 {
				b[at] = byte(from.Intn(256))
			}
			at += 1 + 2048*m*k.width(true)
		}
		checkGet(t, k, b, 0, true, 0, -1)
	}
}

// R3: the octets that are written are neither changed nor kept; those that are
// read are new.
func TestKeepsNothing(t *testing.T) {
	for _, n := range []int{1, 2, 5, 300, 16384, 70000} {
		for _, aligned := range both {
			b := []byte(octets.content(n))
			w := writer(3)
			under.PutOctets(w, aligned, b, n/2, -1)
			if string(b) != octets.content(n) {
				t.Fatal(n, aligned, "changed")
			}
			written := w.Bytes()
			for i := range b {
				b[i] ^= 255
			}
			if !bytes.Equal(w.Bytes(), written) {
				t.Fatal(n, aligned, "kept")
			}
			first, _ := under.GetOctets(at(written, 3), aligned, n/2, -1)
			for i := range first {
				first[i] ^= 255
			}
			if second, e := under.GetOctets(at(written, 3), aligned, n/2, -1); string(second) != octets.content(n) || e != api.OK {
				t.Fatal(n, aligned, "shared")
			}
		}
	}
}

// P1, P6.1 to P6.4: whatever octets, alphabets and bounds there are, each call
// answers what the chapter asks for.
func FuzzStrings(f *testing.F) {
	f.Add([]byte{7, 8}, "", 0, true, 2, 2)
	f.Add([]byte("101"), "01", 3, false, 0, 7)
	f.Add([]byte("b"), "ab", 5, true, 0, 3)
	f.Add([]byte{193}, "\x01\x02\x03", 0, false, 0, -1)
	f.Add([]byte{3, 224}, "ba", 7, true, 1, 65536)
	f.Add([]byte("\x01\x02é"), "\x01\x02\x80", 0, true, math.MinInt, math.MaxInt)
	f.Fuzz(func(t *testing.T, b []byte, from string, pos int, aligned bool, lo, hi int) {
		pos = min(max(pos, 0)%17, 8*len(b))
		if w := under.Width(from, aligned); w != widthOf(from, aligned) {
			t.Fatalf("%q, aligned %v: %d, not %d", from, aligned, w, widthOf(from, aligned))
		}
		for _, k := range []kind{octets, bits, text(from)} {
			checkPut(t, k, pos, aligned, string(b), lo, hi)
			checkGet(t, k, b, pos, aligned, lo, hi)
			if isAlphabet(from) {
				checkPut(t, k, pos, aligned, k.content(len(b)), lo, hi)
			}
		}
		clear(books)
	})
}
