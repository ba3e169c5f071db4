package token

import "strings"

// source is the text that is scanned.
type source string

// at tells the byte at an offset. Behind the end it is 0, which belongs to no
// token.
func (t source) at(offset int) byte {
	if offset >= len(t) {
		return 0
	}
	return t[offset]
}

// has tells whether s stands at an offset.
func (t source) has(offset int, s string) bool {
	return strings.HasPrefix(string(t[offset:]), s)
}

// isUpper tells whether c is an uppercase letter.
func isUpper(c byte) bool {
	return 'A' <= c && c <= 'Z'
}

// isLower tells whether c is a lowercase letter.
func isLower(c byte) bool {
	return 'a' <= c && c <= 'z'
}

// isLetter tells whether c is a letter.
func isLetter(c byte) bool {
	return isUpper(c) || isLower(c)
}

// isDigit tells whether c is a digit.
func isDigit(c byte) bool {
	return '0' <= c && c <= '9'
}

// isSpace tells whether c is white space.
func isSpace(c byte) bool {
	return c == ' ' || c == '\t' || c == '\n' || c == '\r'
}

// isQuotable tells whether c may stand in a quoted string.
func isQuotable(c byte) bool {
	return ' ' <= c && c <= '~'
}
