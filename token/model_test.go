package token_test

import (
	"math"
	"math/big"
	"regexp"
	"slices"
	"strings"
	"testing"

	"spandrel/api"
	"spandrel/token"
)

// This file says in regular expressions what the chapter says, so that it has
// nothing in common with the package that it tests.

// The kinds of tokens.
const (
	word    = 1
	integer = 2
	sign    = 3
	quoted  = 4
)

// answer is what Scan returns.
type answer struct {
	tokens []token.Token
	at     int
	e      api.Errno
}

var (
	gap       = regexp.MustCompile(`^(?:[ \t\n\r]|--[^\n]*?(?:--|\n|$))+`)
	aWord     = regexp.MustCompile(`^[A-Za-z](?:-?[A-Za-z0-9])*`)
	wrongWord = regexp.MustCompile(`^-(?:[^-]|$)`)
	anInteger = regexp.MustCompile(`^-?[0-9]+`)
	minimal   = regexp.MustCompile(`^(?:0|-?[1-9][0-9]*)$`)
	letter    = regexp.MustCompile(`^[A-Za-z]`)
	aSign     = regexp.MustCompile(`^(?:::=|\.\.\.?|[{}()\[\],;|^=-])`)
	aQuoted   = regexp.MustCompile(`^"(?:[ !#-~]|"")*`)
)

// scanned is what Scan must answer.
func scanned(text string) answer {
	if len(text) > 65536 {
		return answer{e: api.ErrLarge}
	}
	var tokens []token.Token
	at := 0
	for {
		at += len(gap.FindString(text[at:]))
		if at == len(text) {
			return answer{tokens, at, api.OK}
		}
		x, size := first(text[at:])
		if size == 0 {
			return answer{at: at, e: api.ErrText}
		}
		x.At = at
		tokens = append(tokens, x)
		at += size
	}
}

// first is the token at the start of a text, and its size, which is 0 if there
// is none.
func first(text string) (token.Token, int) {
	if s := aWord.FindString(text); s != "" {
		if wrongWord.MatchString(text[len(s):]) {
			return token.Token{}, 0
		}
		return token.Token{Kind: word, Text: s}, len(s)
	}
	if s := anInteger.FindString(text); s != "" {
		n, _ := new(big.Int).SetString(s, 10)
		most := big.NewInt(math.MaxInt64)
		if !minimal.MatchString(s) || n.CmpAbs(most) > 0 || letter.MatchString(text[len(s):]) {
			return token.Token{}, 0
		}
		return token.Token{Kind: integer, N: int(n.Int64())}, len(s)
	}
	if s := aQuoted.FindString(text); s != "" {
		if !strings.HasPrefix(text[len(s):], `"`) {
			return token.Token{}, 0
		}
		return token.Token{Kind: quoted, Text: strings.ReplaceAll(s[1:], `""`, `"`)}, len(s) + 1
	}
	s := aSign.FindString(text)
	return token.Token{Kind: sign, Text: s}, len(s)
}

// scan calls Scan, with the answer in one.
func scan(text string) answer {
	tokens, at, e := token.Scan([]byte(text))
	return answer{tokens, at, e}
}

// equal tells whether two answers are the same.
func (a answer) equal(b answer) bool {
	return a.at == b.at && a.e == b.e && slices.Equal(a.tokens, b.tokens)
}

// check holds what Scan answers against what it must.
func check(t *testing.T, text string, want answer) {
	t.Helper()
	if got := scan(text); !got.equal(want) {
		t.Errorf("%.200q:\n%v, not\n%v", text, got, want)
	}
}
