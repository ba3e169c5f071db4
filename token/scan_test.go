package token_test

import (
	"math"
	"strings"
	"testing"

	"spandrel/api"
	"spandrel/token"
)

// w, i, s and q are a word, an integer, a sign and a quoted string at an offset.
func w(at int, text string) token.Token { return token.Token{Kind: word, Text: text, At: at} }
func i(at int, n int) token.Token       { return token.Token{Kind: integer, N: n, At: at} }
func s(at int, text string) token.Token { return token.Token{Kind: sign, Text: text, At: at} }
func q(at int, text string) token.Token { return token.Token{Kind: quoted, Text: text, At: at} }

// row is a text and its tokens.
type row struct {
	text   string
	tokens []token.Token
}

// list is tokens.
func list(tokens ...token.Token) []token.Token { return tokens }

// checkRows holds Scan against rows.
func checkRows(t *testing.T, rows []row) {
	t.Helper()
	for _, x := range rows {
		check(t, x.text, answer{x.tokens, len(x.text), api.OK})
		if !scanned(x.text).equal(answer{x.tokens, len(x.text), api.OK}) {
			t.Errorf("%.200q: the model is wrong", x.text)
		}
	}
}

// P7.1: the chapter's examples, and a module.
func TestExamples(t *testing.T) {
	checkRows(t, []row{
		{"A ::= -5 -- x", list(w(0, "A"), s(2, "::="), i(6, -5))},
		{"a--b", list(w(0, "a"))},
		{"1..2", list(i(0, 1), s(1, ".."), i(3, 2))},
		{
			"M DEFINITIONS ::= BEGIN\nA ::= INTEGER (0..7 | 9, ...)\nEND\n",
			list(w(0, "M"), w(2, "DEFINITIONS"), s(14, "::="), w(18, "BEGIN"),
				w(24, "A"), s(26, "::="), w(30, "INTEGER"), s(38, "("), i(39, 0), s(40, ".."), i(42, 7), s(44, "|"), i(46, 9), s(47, ","), s(49, "..."), s(52, ")"),
				w(54, "END")),
		},
		{
			"IA5String(FROM(\"\"\"ab\"))--c--SEQUENCE{a-b T DEFAULT-5}",
			list(w(0, "IA5String"), s(9, "("), w(10, "FROM"), s(14, "("), q(15, "\"ab"), s(21, ")"), s(22, ")"),
				w(28, "SEQUENCE"), s(36, "{"), w(37, "a-b"), w(41, "T"), w(43, "DEFAULT-5"), s(52, "}")),
		},
	})
	for _, text := range []string{"a-", "01"} {
		check(t, text, answer{at: 0, e: api.ErrText})
	}
}

// P7.1: words.
func TestWords(t *testing.T) {
	checkRows(t, []row{
		{"a", list(w(0, "a"))},
		{"Z", list(w(0, "Z"))},
		{"z", list(w(0, "z"))},
		{"A", list(w(0, "A"))},
		{"aZ09bY", list(w(0, "aZ09bY"))},
		{"a0", list(w(0, "a0"))},
		{"a-b", list(w(0, "a-b"))},
		{"a-0", list(w(0, "a-0"))},
		{"a-5-B-7z-1", list(w(0, "a-5-B-7z-1"))},
		{"a-b-c-d", list(w(0, "a-b-c-d"))},
		{"a--", list(w(0, "a"))},
		{"a---", list(w(0, "a"))},
		{"a---b", list(w(0, "a"))},
		{"a----b", list(w(0, "a"), w(5, "b"))},
		{"a-b--c", list(w(0, "a-b"))},
		{"a-b--c--d-e", list(w(0, "a-b"), w(8, "d-e"))},
		{"a--\n-b", list(w(0, "a"), s(4, "-"), w(5, "b"))},
		{"a -b", list(w(0, "a"), s(2, "-"), w(3, "b"))},
		{"a -5", list(w(0, "a"), i(2, -5))},
		{"a b\tC\nD", list(w(0, "a"), w(2, "b"), w(4, "C"), w(6, "D"))},
		{"a\"b\"c", list(w(0, "a"), q(1, "b"), w(4, "c"))},
		{"a,b", list(w(0, "a"), s(1, ","), w(2, "b"))},
		{"a..b", list(w(0, "a"), s(1, ".."), w(3, "b"))},
		{"a::=b", list(w(0, "a"), s(1, "::="), w(4, "b"))},
	})
}

// P7.1: integers.
func TestIntegers(t *testing.T) {
	checkRows(t, []row{
		{"0", list(i(0, 0))},
		{"1", list(i(0, 1))},
		{"9", list(i(0, 9))},
		{"10", list(i(0, 10))},
		{"100", list(i(0, 100))},
		{"9223372036854775807", list(i(0, math.MaxInt64))},
		{"9223372036854775806", list(i(0, math.MaxInt64-1))},
		{"-1", list(i(0, -1))},
		{"-10", list(i(0, -10))},
		{"-9223372036854775807", list(i(0, -math.MaxInt64))},
		{"0 0", list(i(0, 0), i(2, 0))},
		{"1 -1", list(i(0, 1), i(2, -1))},
		{"1-1", list(i(0, 1), i(1, -1))},
		{"0-1-2", list(i(0, 0), i(1, -1), i(3, -2))},
		{"1- 1", list(i(0, 1), s(1, "-"), i(3, 1))},
		{"- 0", list(s(0, "-"), i(2, 0))},
		{"1--1", list(i(0, 1))},
		{"1-- --1", list(i(0, 1), i(6, 1))},
		{"0-a", list(i(0, 0), s(1, "-"), w(2, "a"))},
		{"1..-1", list(i(0, 1), s(1, ".."), i(3, -1))},
		{"-3..-1", list(i(0, -3), s(2, ".."), i(4, -1))},
		{"5\"a\"", list(i(0, 5), q(1, "a"))},
		{"(5)", list(s(0, "("), i(1, 5), s(2, ")"))},
		{"0..0", list(i(0, 0), s(1, ".."), i(3, 0))},
		{"5|9^-7", list(i(0, 5), s(1, "|"), i(2, 9), s(3, "^"), i(4, -7))},
	})
}

// P7.1: signs, each of them the longest one.
func TestSigns(t *testing.T) {
	for _, text := range []string{"::=", "...", "..", "{", "}", "(", ")", "[", "]", ",", ";", "|", "^", "=", "-"} {
		checkRows(t, []row{
			{text, list(s(0, text))},
			{text + " a", list(s(0, text), w(len(text)+1, "a"))},
			{text + "a", list(s(0, text), w(len(text), "a"))},
			{"\n" + text + "\n" + text, list(s(1, text), s(2+len(text), text))},
		})
	}
	checkRows(t, []row{
		{"..5", list(s(0, ".."), i(2, 5))},
		{".. ...", list(s(0, ".."), s(3, "..."))},
		{".....", list(s(0, "..."), s(3, ".."))},
		{"......", list(s(0, "..."), s(3, "..."))},
		{"........", list(s(0, "..."), s(3, "..."), s(6, ".."))},
		{"1...2", list(i(0, 1), s(1, "..."), i(4, 2))},
		{"::=::=", list(s(0, "::="), s(3, "::="))},
		{"::==", list(s(0, "::="), s(3, "="))},
		{"=::=", list(s(0, "="), s(1, "::="))},
		{"==", list(s(0, "="), s(1, "="))},
		{"-5", list(i(0, -5))},
		{"--", nil},
		{"---", nil},
		{"- -", list(s(0, "-"), s(2, "-"))},
		{"-a", list(s(0, "-"), w(1, "a"))},
		{"-..", list(s(0, "-"), s(1, ".."))},
		{"-=", list(s(0, "-"), s(1, "="))},
		{"-::=", list(s(0, "-"), s(1, "::="))},
		{"-\"\"", list(s(0, "-"), q(1, ""))},
		{"- 5", list(s(0, "-"), i(2, 5))},
		{"-\n5", list(s(0, "-"), i(2, 5))},
		{"=-5", list(s(0, "="), i(1, -5))},
		{"::=-a", list(s(0, "::="), s(3, "-"), w(4, "a"))},
		{"[[]]", list(s(0, "["), s(1, "["), s(2, "]"), s(3, "]"))},
		{"{}()[],;|^=", list(s(0, "{"), s(1, "}"), s(2, "("), s(3, ")"), s(4, "["), s(5, "]"), s(6, ","), s(7, ";"), s(8, "|"), s(9, "^"), s(10, "="))},
	})
}

// P7.1: quoted strings.
func TestQuoted(t *testing.T) {
	all := ""
	for c := byte(32); c <= 126; c++ {
		all += string([]byte{c})
	}
	checkRows(t, []row{
		{`""`, list(q(0, ""))},
		{`"a"`, list(q(0, "a"))},
		{`""""`, list(q(0, `"`))},
		{`""""""`, list(q(0, `""`))},
		{`"a""b"`, list(q(0, `a"b`))},
		{`"""a"`, list(q(0, `"a`))},
		{`"a"""`, list(q(0, `a"`))},
		{`"a""""b"`, list(q(0, `a""b`))},
		{`" "`, list(q(0, " "))},
		{`"~"`, list(q(0, "~"))},
		{`" ~"`, list(q(0, " ~"))},
		{`"--"`, list(q(0, "--"))},
		{`"-- a"--"`, list(q(0, "-- a"))},
		{`"a\"`, list(q(0, `a\`))},
		{`"01 a- ."`, list(q(0, "01 a- ."))},
		{`"" ""`, list(q(0, ""), q(3, ""))},
		{`"a" "b"`, list(q(0, "a"), q(4, "b"))},
		{`"a"b"c"`, list(q(0, "a"), w(3, "b"), q(4, "c"))},
		{`"a"5`, list(q(0, "a"), i(3, 5))},
		{`"a"-5`, list(q(0, "a"), i(3, -5))},
		{`"a"--b`, list(q(0, "a"))},
		{"\"a\"\n\"b\"", list(q(0, "a"), q(4, "b"))},
		{`"` + strings.ReplaceAll(all, `"`, `""`) + `"`, list(q(0, all))},
	})
}

// P7.1: white space and comments between tokens, ahead of them and behind them.
func TestGaps(t *testing.T) {
	checkRows(t, []row{
		{"", nil},
		{" ", nil},
		{"\t", nil},
		{"\n", nil},
		{"\r", nil},
		{" \t\n\r \r\n", nil},
		{"a b", list(w(0, "a"), w(2, "b"))},
		{"a\tb", list(w(0, "a"), w(2, "b"))},
		{"a\nb", list(w(0, "a"), w(2, "b"))},
		{"a\rb", list(w(0, "a"), w(2, "b"))},
		{"\r\n\t a \t\r\nb \n", list(w(4, "a"), w(9, "b"))},

		{"-- x\na", list(w(5, "a"))},
		{"-- x\r\na", list(w(6, "a"))},
		{"-- x\n", nil},
		{"-- x", nil},
		{"--", nil},
		{"-- x -- a", list(w(8, "a"))},
		{"--x--a", list(w(5, "a"))},
		{"----a", list(w(4, "a"))},
		{"-----a", list(s(4, "-"), w(5, "a"))},
		{"-----5", list(i(4, -5))},
		{"------a", nil},
		{"------\na", list(w(7, "a"))},
		{"---\na", list(w(4, "a"))},
		{"---a--b", list(w(6, "b"))},
		{"---a---b", list(s(6, "-"), w(7, "b"))},
		{"-- - --a", list(w(7, "a"))},
		{"-- x --a\nb", list(w(7, "a"), w(9, "b"))},
		{"-- x \n--a\nb", list(w(10, "b"))},
		{"--\n--\n--\na", list(w(9, "a"))},
		{"--a----b--c", list(w(10, "c"))},
		{"-- \"a\" 01 a- . : \x00\x1f\x7f\x80\xff\t\n5", list(i(24, 5))},
		{"-- \"a\nb\"\"", list(w(6, "b"), q(7, ""))},
		{"--\"--\"a\"", list(q(5, "a"))},
		// A line ends with a line feed.
		{"-- x\ra", nil},
		{"-- x\ra\nb", list(w(7, "b"))},

		{"a-- x\nb", list(w(0, "a"), w(6, "b"))},
		{"5-- x\n6", list(i(0, 5), i(6, 6))},
		{"-5-- x --6", list(i(0, -5), i(9, 6))},
		{",-- x\n;", list(s(0, ","), s(6, ";"))},
		{"::=--x--...--y--..", list(s(0, "::="), s(8, "..."), s(16, ".."))},
	})
}

// fault is a text that is wrong, and where.
type fault struct {
	text string
	at   int
}

// P7.1: the first byte that starts no token.
func TestNoToken(t *testing.T) {
	for c := range 256 {
		text := string([]byte{byte(c)})
		switch {
		case 'a' <= c && c <= 'z', 'A' <= c && c <= 'Z', '0' <= c && c <= '9', strings.Contains("=,;|^(){}[]- \t\n\r", text):
			check(t, text, answer{scanned(text).tokens, 1, api.OK})
			continue
		case strings.Contains(`".:`, text): // These may start a token, but are none alone.
			checkFaults(t, []fault{{text, 0}})
			continue
		}
		checkFaults(t, []fault{
			{text, 0}, {text + text, 0}, {text + "a", 0}, {text + "-", 0}, {"a" + text, 1}, {"a " + text + " b", 2}, {"5" + text, 1},
			{"-5 " + text, 3}, {"-" + text, 1}, {"::=" + text, 3}, {".." + text, 2}, {"\"\"" + text, 2}, {"--" + text + "--" + text, 5}, {"--\n" + text, 3},
			{text + " 01", 0}, {text + " a-", 0}, {text + "\"", 0},
		})
	}
	checkFaults(t, []fault{
		{":", 0}, {"::", 0}, {": :=", 0}, {":: =", 0}, {":=", 0}, {":::=", 0}, {"::=:", 3}, {"::=::", 3}, {"::=:=", 3}, {"a:b", 1}, {"a ::b", 2}, {"::-=", 0},
		{".", 0}, {". .", 0}, {".a", 0}, {".5", 0}, {"....", 3}, {".. .", 3}, {".......", 6}, {"1.2", 1}, {"a.b", 1}, {"..--x--.", 7},
		{"a _", 2}, {"a_b", 1}, {"'a'", 0}, {"a<b", 1}, {"\x00", 0}, {"a\x00", 1}, {"a\x0bb", 1}, {"a\x0cb", 1}, {"é", 0}, {"aé", 1}, {"\xef\xbb\xbfa", 0}, {"a\u00a0b", 1},
	})
}

// checkFaults holds Scan against texts that are wrong.
func checkFaults(t *testing.T, faults []fault) {
	t.Helper()
	for _, x := range faults {
		check(t, x.text, answer{at: x.at, e: api.ErrText})
		if !scanned(x.text).equal(answer{at: x.at, e: api.ErrText}) {
			t.Errorf("%.200q: the model is wrong", x.text)
		}
	}
}

// P7.1: words, integers and quoted strings that are wrong, behind texts that
// are not, and ahead of texts that are wrong too.
func TestFaults(t *testing.T) {
	var wrong []string
	wrong = append(wrong, wrongWords()...)
	wrong = append(wrong, wrongIntegers()...)
	wrong = append(wrong, wrongQuoted()...)
	for _, text := range wrong {
		for _, ahead := range []string{"", " ", "\r\n\t", "a ", "5 ", "-5 ", "(", "::=", "..", "...", "\"\" ", "--x--", "-- 01 \"\n", "a-b ", "A ::= { b, -7..\n"} {
			for _, behind := range []string{"", "\n:", "\n01", "\na-", "\n\""} {
				checkFaults(t, []fault{{ahead + text + behind, len(ahead)}})
			}
		}
	}
}

// wrongWords is words that end with a hyphen.
func wrongWords() []string {
	return []string{
		"a-", "Z-", "a0-", "a-b-", "a-5-", "a-b-c-", "a- ", "a-\n", "a- b", "a-,", "a-..", "a-::=", "a-\"b\"", "a-=", "a-_", "a-\x00", "a-\xff", "a-é", "a-(5)",
		"a- -", "a- --b", strings.Repeat("a-", 1000),
	}
}

// wrongIntegers is integers that are too great, that start with 0, that are -0,
// or that a letter follows.
func wrongIntegers() []string {
	return []string{
		"9223372036854775808", "-9223372036854775808", "9223372036854775810", "10000000000000000000", "-10000000000000000000", "18446744073709551615",
		"18446744073709551616", "18446744073709551617", "-18446744073709551617", "1" + strings.Repeat("0", 1000), strings.Repeat("9", 2000), "-" + strings.Repeat("7", 20),
		"00", "01", "09", "0123", "000", "00000000000000000000000", "0" + strings.Repeat("9", 30),
		"-0", "-00", "-01", "-0 ", "-0..5", "-0,", "-0-1", "-0--x",
		"0a", "1a", "9Z", "10x", "-1a", "-5Z", "5E3", "0x10", "1a-b", "1a--x", "9223372036854775807a", "9223372036854775808a", "01a", "-0a", "7b-",
	}
}

// wrongQuoted is strings without an end, and strings with other characters.
func wrongQuoted() []string {
	list := []string{
		`"`, `"a`, `"""`, `"a""`, `"""""`, `"a""b`, `" `, `"--`, `"a b c (5)`, "\"a\n", "\"a\nb\"", "\"\t\"", "\"a\tb\"", "\"\r\"", "\"a\r\n\"", "\"a\"\"\n\"", "\"é\"", "\"a\"\"é\"",
		"\"--\n\"", strings.Repeat(`"`, 1001),
	}
	for c := range 256 {
		if c < 32 || c > 126 {
			text := string([]byte{byte(c)})
			list = append(list, "\""+text+"\"", "\"ab\"\""+text+"c\"", "\" ~"+text)
		}
	}
	return list
}

// P7.1: where the fault is told by hand, not by what stands ahead of it.
func TestFirstFault(t *testing.T) {
	checkFaults(t, []fault{
		{"a 01 b-", 2}, {"b- 01", 0}, {"\"a\" \"b", 4}, {`"a"b"`, 4}, {`"a" "`, 4}, {`a"`, 1}, {`5"`, 1}, {`-"`, 1}, {"5 -0", 2}, {"5-0", 1}, {"a-0 -0", 4}, {"5-5-05", 3},
		{"1-1a", 1}, {"1 1a", 2}, {"a5 5a", 3}, {"--01--01", 6}, {"-- \"\n\"", 5}, {"0..01", 3}, {"..00", 2}, {"{ a-, b }", 2}, {"A ::= INTEGER (0..9223372036854775808)", 18},
		{"A ::= INTEGER (-9223372036854775808..0)", 15}, {"a-b c- d-", 4},
	})
}
