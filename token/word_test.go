package token_test

import (
	"strings"
	"testing"

	"spandrel/token"
)

// checkWord holds Upper and Lower against what they must answer.
func checkWord(t *testing.T, s string, upper, lower bool) {
	t.Helper()
	if token.Upper(s) != upper || token.Lower(s) != lower {
		t.Errorf("%.200q: Upper %v, Lower %v", s, token.Upper(s), token.Lower(s))
	}
}

// P7.2: words, by their first letter.
func TestWord(t *testing.T) {
	for c := byte('a'); c <= 'z'; c++ {
		small, capital := string([]byte{c}), string([]byte{c - 'a' + 'A'})
		for _, rest := range []string{"", "a", "Z", "0", "9", "b7", "-b", "-B", "-0", "a-b", "a-5-C-d0", "IG", "-a-b-c", "0-0"} {
			checkWord(t, small+rest, false, true)
			checkWord(t, capital+rest, true, false)
		}
	}
	for _, s := range []string{"T", "INTEGER", "IA5String", "A-b", "END"} {
		checkWord(t, s, true, false)
	}
	for _, s := range []string{"x", "integer", "a1", "a-B", "mAX"} {
		checkWord(t, s, false, true)
	}
	// No word is too long.
	for _, size := range []int{65535, 65536, 65537, 1 << 20} {
		checkWord(t, strings.Repeat("a", size), false, true)
		checkWord(t, "A"+strings.Repeat("-0", size), true, false)
		checkWord(t, "A"+strings.Repeat("-0", size)+"-", false, false)
	}
}

// P7.2: what is no word.
func TestNoWord(t *testing.T) {
	for _, s := range []string{
		"", "-", "--", "0", "5", "-5", "05", "10", "::=", "...", "(", "=", "\"\"", "\"A\"", "\"a\"", ":", ".", "_", " ", "\n", "\x00", "\xff", "é", "É", "Ａ",
		strings.Repeat("9", 100000), strings.Repeat("-", 100000), strings.Repeat("\"", 100000),
	} {
		checkWord(t, s, false, false)
	}
	for _, s := range []string{"a", "A", "ab", "Ab", "a-b", "A-b", "a0", "A-0"} {
		for _, behind := range []string{
			"-", "--", "---", "--b", "--B", "-b-", "-b--c", "--x--", "--\n", "----", "----b", " ", "\t", "\n", "\r", " b", "\nB", "-- b\nc", "- b", "-\n", ",", "..", "...", "::=", ":", ".", "=",
			"(", "\"", "\"\"", "\"b\"", "_", "_b", "'", "\x00", "\x00b", "\x7f", "\x80", "\xff", "é", "-é", "-_", "-\x00", "-.", "-\"",
		} {
			checkWord(t, s+behind, false, false)
		}
		for _, ahead := range []string{"0", "5", "9", "-", "--", "-- \n", "--x--", "----", "- ", "5-", "0-", " ", "\t", "\n", "\r", ",", "..", "::=", "=", "(", "\"", "\"\"", "_", "\x00", "\x80", "\xff", "é"} {
			checkWord(t, ahead+s, false, false)
		}
	}
}

// P7.1, P7.2: a word is what Scan answers as one that is the whole text; all
// texts of up to four bytes among some of each sort.
func TestWordsAll(t *testing.T) {
	for _, text := range texts("azAZ09-. \n\"", 4) {
		a := scan(text)
		whole := len(a.tokens) == 1 && a.tokens[0] == token.Token{Kind: word, Text: text}
		checkWord(t, text, whole && text[0] <= 'Z', whole && text[0] >= 'a')
	}
}

// P7.2: each byte alone, and behind letters.
func TestWordBytes(t *testing.T) {
	for c := range 256 {
		s := string([]byte{byte(c)})
		small, capital := 'a' <= c && c <= 'z', 'A' <= c && c <= 'Z'
		in := small || capital || '0' <= c && c <= '9'
		checkWord(t, s, capital, small)
		checkWord(t, "a"+s, false, in)
		checkWord(t, "A"+s, in, false)
		checkWord(t, "a-"+s, false, in)
		checkWord(t, "A"+s+"b", in || c == '-', false)
	}
}
