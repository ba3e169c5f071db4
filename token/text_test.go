package token_test

import (
	"math/rand"
	"slices"
	"strings"
	"testing"

	"spandrel/api"
	"spandrel/token"
)

// texts is all texts of up to size bytes among these.
func texts(bytes string, size int) []string {
	all, last := []string{""}, []string{""}
	for range size {
		var next []string
		for _, text := range last {
			for k := range len(bytes) {
				next = append(next, text+bytes[k:k+1])
			}
		}
		all, last = append(all, next...), next
	}
	return all
}

// P7.1: all short texts of some bytes of each sort, held against the model.
func TestShort(t *testing.T) {
	for _, text := range texts("aZ01-.:=\"( \n\x01", 4) {
		check(t, text, scanned(text))
	}
	for _, text := range texts("a0-\"\n.", 6) {
		check(t, text, scanned(text))
	}
}

// P7.1: texts of 65536 bytes, and of one more.
func TestSizes(t *testing.T) {
	const most = 65536
	many := make([]token.Token, most)
	for k := range many {
		many[k] = s(k, ",")
	}
	var halves []token.Token
	for k := range most / 2 {
		halves = append(halves, w(2*k, "a"))
	}
	for _, x := range []row{
		{strings.Repeat("a", most), list(w(0, strings.Repeat("a", most)))},
		{strings.Repeat(" ", most), nil},
		{strings.Repeat("-", most), nil},
		{strings.Repeat("-", most-1) + "\n", nil},
		{"--" + strings.Repeat("x", most-2), nil},
		{"--" + strings.Repeat(" -", most/2-1), nil},
		{strings.Repeat("\n", most-1) + "a", list(w(most-1, "a"))},
		{strings.Repeat("\n", most-1) + "5", list(i(most-1, 5))},
		{strings.Repeat("\n", most-2) + "-5", list(i(most-2, -5))},
		{strings.Repeat("\n", most-1) + "-", list(s(most-1, "-"))},
		{strings.Repeat("\n", most-2) + `""`, list(q(most-2, ""))},
		{strings.Repeat(",", most), many},
		{strings.Repeat("a ", most/2), halves},
		{`"` + strings.Repeat("x", most-2) + `"`, list(q(0, strings.Repeat("x", most-2)))},
		{strings.Repeat(`"`, most), list(q(0, strings.Repeat(`"`, most/2-1)))},
	} {
		checkRows(t, []row{x})
		check(t, x.text+" ", answer{e: api.ErrLarge})
		check(t, x.text+"a", answer{e: api.ErrLarge})
	}
	checkFaults(t, []fault{
		{strings.Repeat("9", most), 0}, {strings.Repeat("0", most), 0}, {`"` + strings.Repeat("x", most-1), 0}, {strings.Repeat(" ", most-1) + ":", most - 1},
		{strings.Repeat("a-", most/2), 0}, {strings.Repeat(".", most), most - 1},
	})
	// Be the text wrong or not: it is too large.
	for _, text := range []string{":", "\x00", "01 ", "\"", "a-", " ", "\n", "--"} {
		for _, size := range []int{most + 1, most + 2, 1 << 17, 1 << 22} {
			check(t, strings.Repeat(text, size)[:size], answer{e: api.ErrLarge})
		}
	}
}

// spellings is tokens of each kind, as they are spelled.
func spellings() []string {
	return []string{
		"a", "Z", "a-b", "A-5-c0", "IA5String", "0", "9", "10", "9223372036854775807", "-1", "-9223372036854775807",
		"::=", "...", "..", "{", "}", "(", ")", "[", "]", ",", ";", "|", "^", "=", "-",
		`""`, `"a"`, `""""`, `" ~"`, `"--"`, `"a""b "`,
	}
}

// gaps is what may stand between two tokens, whatever they are.
func gaps() []string {
	return []string{" ", "\t", "\n", "\r", "\r\n", "  ", " -- x\n", "\n--x--", " --x-- ", " -- \"\r\n", "\t----", " ------\n", " -- 01 --\n-- : --"}
}

// same tells whether tokens differ in nothing but their offsets.
func same(a, b []token.Token) bool {
	return slices.EqualFunc(a, b, func(x, y token.Token) bool {
		x.At, y.At = 0, 0
		return x == y
	})
}

// P7.1, P7.3: all pairs of tokens with all that may stand between them, ahead of
// them and behind them: the tokens are those that they are alone.
func TestPairs(t *testing.T) {
	for _, a := range spellings() {
		for _, b := range spellings() {
			for k, between := range gaps() {
				ahead, behind := gaps()[(k+1)%len(gaps())], gaps()[(k+2)%len(gaps())]
				x, y := scan(a).tokens[0], scan(b).tokens[0]
				x.At, y.At = len(ahead), len(ahead+a+between)
				text := ahead + a + between + b + behind
				check(t, text, answer{list(x, y), len(text), api.OK})
			}
		}
	}
}

// anyText is a text of some tokens, with or without anything between them.
func anyText(from *rand.Rand) string {
	var text strings.Builder
	for range from.Intn(12) {
		text.WriteString(spellings()[from.Intn(len(spellings()))])
		for range from.Intn(3) {
			text.WriteString(gaps()[from.Intn(len(gaps()))])
		}
	}
	return text.String()
}

// P7.3: tokens do not overlap and are in order, and nothing but white space and
// comments lies between them.
func TestOrder(t *testing.T) {
	from := rand.New(rand.NewSource(7))
	for range 20000 {
		text := anyText(from)
		a := scan(text)
		check(t, text, scanned(text))
		if a.e == api.OK {
			checkOrder(t, text, a.tokens)
		}
	}
}

// checkOrder holds tokens against the text that they are of.
func checkOrder(t *testing.T, text string, tokens []token.Token) {
	t.Helper()
	for k, x := range tokens {
		end := len(text)
		if k+1 < len(tokens) {
			end = tokens[k+1].At
		}
		if x.At < 0 || x.At >= end || end > len(text) {
			t.Fatalf("%.200q: token %d from %d on, the next one from %d on", text, k, x.At, end)
		}
		alone := scan(text[x.At:end])
		x.At = 0
		if alone.e != api.OK || !slices.Equal(alone.tokens, list(x)) {
			t.Fatalf("%.200q: %v alone is %v", text, x, alone)
		}
	}
	start := len(text)
	if len(tokens) > 0 {
		start = tokens[0].At
	}
	check(t, text[:start], answer{nil, start, api.OK})
}

// P7.3: additional white space or comments between two tokens change only
// offsets.
func TestAdditional(t *testing.T) {
	from := rand.New(rand.NewSource(8))
	for range 5000 {
		text := anyText(from)
		a := scan(text)
		for k := 1; k < len(a.tokens); k++ {
			x := gaps()[from.Intn(len(gaps()))]
			at := a.tokens[k].At
			b := scan(text[:at] + x + text[at:])
			if b.e != api.OK || !same(a.tokens, b.tokens) {
				t.Fatalf("%q with %q at %d:\n%v, not\n%v", text, x, at, b, a)
			}
			for j, y := range b.tokens {
				want := a.tokens[j].At
				if j >= k {
					want += len(x)
				}
				if y.At != want {
					t.Fatalf("%q with %q at %d: token %d at %d, not %d", text, x, at, j, y.At, want)
				}
			}
		}
	}
}

// P1, R3: the text is neither changed nor kept, and no answer shares anything
// with another one.
func TestKeepsNothing(t *testing.T) {
	text := []byte(`A ::= B { a "b""c" } -5..5 -- x`)
	before := string(text)
	a, _, _ := token.Scan(text)
	b, _, _ := token.Scan(text)
	if string(text) != before {
		t.Fatalf("%q", text)
	}
	want := slices.Clone(a)
	for k := range text {
		text[k] = 'z'
	}
	for k := range b {
		b[k] = token.Token{}
	}
	if !slices.Equal(a, want) || !slices.Equal(a, scanned(before).tokens) {
		t.Error(a)
	}
}

// P1: beside an error there are no tokens; no text at all is none.
func TestNothing(t *testing.T) {
	for _, text := range [][]byte{nil, {}} {
		if tokens, at, e := token.Scan(text); len(tokens) != 0 || at != 0 || e != api.OK {
			t.Error(tokens, at, e)
		}
	}
	for _, text := range []string{"a b c :", "a b 01", "a b c-", "a b \"", strings.Repeat("a ", 40000)} {
		if tokens, _, e := token.Scan([]byte(text)); tokens != nil || e == api.OK {
			t.Error(tokens, e)
		}
	}
}

// P1, P7.1: arbitrary octets.
func TestArbitrary(t *testing.T) {
	from := rand.New(rand.NewSource(9))
	for range 20000 {
		b := make([]byte, from.Intn(20))
		from.Read(b)
		check(t, string(b), scanned(string(b)))
	}
}

// FuzzScan holds Scan, Upper and Lower against the model.
func FuzzScan(f *testing.F) {
	for _, text := range append(append(spellings(), gaps()...), "A ::= -5 -- x", "a-", "a--b", "1..2", "01", "-0", "::", "\"a\n") {
		f.Add([]byte(text))
	}
	f.Fuzz(func(t *testing.T, text []byte) {
		want := scanned(string(text))
		check(t, string(text), want)
		if want.e == api.OK {
			checkOrder(t, string(text), want.tokens)
		}
		first := token.Token{Kind: word, Text: string(text)}
		if len(text) <= api.MaxText && (token.Upper(string(text)) || token.Lower(string(text))) != slices.Equal(want.tokens, list(first)) {
			t.Errorf("%.200q: Upper %v, Lower %v", text, token.Upper(string(text)), token.Lower(string(text)))
		}
	})
}
