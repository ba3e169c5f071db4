package strings_test

import (
	"strings"
	"testing"

	"spandrel/api"
	"spandrel/stream"
	under "spandrel/strings"
)

// run is the characters from one code on, count of them.
func run(first, count int) string {
	return letters("")[first : first+count]
}

// alphabets is alphabets of each number of characters: of the least codes, of
// the greatest ones, and of codes with others between them.
func alphabets() []string {
	list := []string{"", "ab", "01", "0123456789", " 0123456789", "ACGT", "\x00\x7f", "\x03", "\x01\x02\x03", "\x00\x02\x03"}
	for count := 1; count <= 128; count++ {
		list = append(list, run(0, count), run(128-count, count))
		if count <= 63 {
			list = append(list, run(1, count), odd(count))
		}
	}
	return list
}

// odd is count characters with odd codes.
func odd(count int) string {
	b := make([]byte, count)
	for i := range b {
		b[i] = byte(2*i + 1)
	}
	return string(b)
}

// wrongs is strings that are no alphabets.
func wrongs() []string {
	return []string{
		"aa", "ba", "abca", "abb", "aab", "acb", "10", "\x00\x00", "\x01\x00", "\x7f\x7f", "\x7f\x00",
		"\x80", "\xff", "a\x80", "\x80a", "a\xff", "é", "aé", "éa", "世", "ab\x80c", letters("") + "\x80", letters("") + "\x00",
		letters("") + letters(""), strings.Repeat("a", 300), "\xc3", string([]byte{128, 129}), strings.Repeat("\x80", 1<<20),
	}
}

// P6.1: Width of alphabets, spelled out by hand.
func TestWidthRows(t *testing.T) {
	for _, x := range []struct {
		from           string
		width, aligned int
	}{
		{"", 7, 8},
		{"a", 0, 0},
		{"\x00", 0, 0},
		{"\x7f", 0, 0},
		{"01", 1, 1},
		{"\x00\x7f", 1, 1},
		{"abc", 2, 2},
		{run(0, 4), 2, 2},
		{run(60, 5), 3, 4},
		{run(60, 8), 3, 4},
		{run(60, 9), 4, 4},
		{run(0, 16), 4, 4},
		{run(50, 16), 4, 4},
		{run(0, 17), 5, 8},
		{run(50, 17), 5, 8},
		{run(50, 32), 5, 8},
		{run(50, 33), 6, 8},
		{run(0, 64), 6, 8},
		{run(64, 64), 6, 8},
		{run(0, 65), 7, 8},
		{run(63, 65), 7, 8},
		{run(0, 127), 7, 8},
		{run(0, 128), 7, 8},
	} {
		if w := under.Width(x.from, false); w != x.width {
			t.Errorf("%q: %d, not %d", x.from, w, x.width)
		}
		if w := under.Width(x.from, true); w != x.aligned {
			t.Errorf("%q, aligned: %d, not %d", x.from, w, x.aligned)
		}
	}
}

// P6.1: Width of alphabets of each number of characters, and of what is none.
func TestWidth(t *testing.T) {
	for _, aligned := range both {
		for _, from := range alphabets() {
			if w := under.Width(from, aligned); w != widthOf(from, aligned) || !isAlphabet(from) {
				t.Errorf("%q, aligned %v: %d, not %d", from, aligned, w, widthOf(from, aligned))
			}
		}
		for _, from := range wrongs() {
			if w := under.Width(from, aligned); w != 0 || isAlphabet(from) {
				t.Errorf("%.200q, aligned %v: %d, not 0", from, aligned, w)
			}
		}
	}
}

// P6.1: all strings of two octets, be they alphabets or not.
func TestWidthPairs(t *testing.T) {
	for a := range 256 {
		for b := range 256 {
			want := 0
			if a < b && b < 128 {
				want = 1
			}
			for _, aligned := range both {
				if w := under.Width(string([]byte{byte(a), byte(b)}), aligned); w != want {
					t.Fatal(a, b, aligned, w, want)
				}
			}
		}
	}
}

// P6.2: a character's number by its index and by its code, spelled out by hand;
// the bounds are 1 and 1, so that there is nothing else.
func TestNumbers(t *testing.T) {
	for _, x := range []struct {
		from, s            string
		unaligned, aligned string
	}{
		// The greatest code is less than 2^w: the number is the code.
		{"", "a", "1100001", "01100001"},
		{"", "\x00", "0000000", "00000000"},
		{"", "\x7f", "1111111", "01111111"},
		{run(0, 128), "a", "1100001", "01100001"},
		{"\x00", "\x00", "", ""},
		{"\x00\x01", "\x01", "1", "1"},
		{"\x00\x01\x02", "\x02", "10", "10"},
		{"\x01\x02\x03", "\x01", "01", "01"},
		{"\x01\x02\x03", "\x03", "11", "11"},
		{"\x00\x02\x03", "\x02", "10", "10"},
		{"\x01\x02\x03\x05\x07", "\x05", "101", "0101"},
		{run(63, 65), "\x7f", "1111111", "01111111"},
		{run(63, 65), "A", "1000001", "01000001"},
		{odd(16), "\x05", "0010", "0010"},
		// The greatest code is 2^w or more: it is the index.
		{"a", "a", "", ""},
		{"\x01", "\x01", "", ""},
		{"ab", "a", "0", "0"},
		{"ab", "b", "1", "1"},
		{"\x01\x02", "\x02", "1", "1"},
		{"\x00\x02", "\x02", "1", "1"},
		{"\x01\x02\x04", "\x04", "10", "10"},
		{"\x01\x02\x04", "\x01", "00", "00"},
		{"0123456789", "7", "0111", "0111"},
		{run(64, 16), "O", "1111", "1111"},
		// The widths of the variants differ, and so may the numbers.
		{run(65, 17), "C", "00010", "01000011"},
		{run(64, 64), "A", "000001", "01000001"},
		{run(64, 64), "\x7f", "111111", "01111111"},
		{run(0, 64), "!", "100001", "00100001"},
		{"\x01\x02\x03\x05\x08", "\x08", "100", "1000"},
		{"\x01\x02\x03\x05\x10", "\x10", "100", "0100"},
		{"\x01\x02\x03\x05\x08", "\x05", "011", "0101"},
	} {
		for _, aligned := range both {
			want := x.unaligned
			if aligned {
				want = x.aligned
			}
			w := writer(3)
			if e := under.PutText(w, aligned, x.s, x.from, 1, 1); e != api.OK {
				t.Errorf("%q in %q, aligned %v: error %d", x.s, x.from, aligned, e)
				continue
			}
			checkHolds(t, w, "111"+want)
			r := at(packed("111"+want), 3)
			if s, e := under.GetText(r, aligned, x.from, 1, 1); s != x.s || e != api.OK || r.Pos() != 3+len(want) {
				t.Errorf("%q in %q, aligned %v: %q, error %d, at %d", x.s, x.from, aligned, s, e, r.Pos())
			}
		}
	}
}

// P6.2, P6.3: each octet with each alphabet, as a character and as a unit.
func TestNumbersAll(t *testing.T) {
	for i, from := range alphabets() {
		for o := range 256 {
			checkPut(t, text(from), i%9, o%2 == i%2, string([]byte{byte(o)}), 1, 1)
			checkGet(t, text(from), []byte{byte(o), byte(i)}, 0, o%2 == i/2%2, 1, 1)
		}
	}
}

// P6.2, P6.3: what is no alphabet is ErrArg, and nothing is written, be the
// string empty or not.
func TestNoAlphabet(t *testing.T) {
	for _, from := range wrongs() {
		for _, aligned := range both {
			for _, s := range []string{"", "a", "b", "\x80", from} {
				w := writer(3)
				if e := under.PutText(w, aligned, s, from, 0, -1); e != api.ErrArg {
					t.Fatalf("%.200q, aligned %v: error %d", from, aligned, e)
				}
				checkHolds(t, w, "111")
			}
			for _, b := range [][]byte{nil, {0}, {255, 255}, {1, 97}} {
				r := stream.New(b)
				if s, e := under.GetText(r, aligned, from, 0, -1); s != "" || e != api.ErrArg || r.Pos() != 0 {
					t.Fatalf("%.200q, aligned %v: %q, error %d", from, aligned, s, e)
				}
				if s, e := under.GetText(r, aligned, from, 0, 0); s != "" || e != api.ErrArg || r.Pos() != 0 {
					t.Fatalf("%.200q, aligned %v: %q, error %d", from, aligned, s, e)
				}
			}
		}
	}
}
