package token

import (
	"strconv"
	"strings"
)

const (
	// hyphens begin a comment, and may end it.
	hyphens = "--"
	quote   = '"'
)

// signs has each sign ahead of those that it begins with.
var signs = [...]string{"::=", "...", "..", "{", "}", "(", ")", "[", "]", ",", ";", "|", "^", "=", "-"}

// scanner is a text and the offset at which a token may start.
type scanner struct {
	source
	start int
}

// skip goes on behind white space and comments.
func (s *scanner) skip() {
	for {
		switch {
		case isSpace(s.at(s.start)):
			s.start++
		case s.has(s.start, hyphens):
			s.start = s.commentEnd()
		default:
			return
		}
	}
}

// commentEnd determines where the comment ends that starts here.
func (s scanner) commentEnd() int {
	for end := s.start + len(hyphens); end < len(s.source); end++ {
		switch {
		case s.at(end) == '\n':
			return end
		case s.has(end, hyphens):
			return end + len(hyphens)
		}
	}
	return len(s.source)
}

// end determines the kind of the token that starts here, and where it ends. If
// there is none, it ends where it starts.
func (s scanner) end() (kind, end int) {
	switch c := s.at(s.start); {
	case isLetter(c):
		return word, s.wordEnd()
	case isDigit(c), c == '-' && isDigit(s.at(s.start+1)):
		return integer, s.integerEnd()
	case c == quote:
		return quoted, s.quotedEnd()
	}
	return sign, s.signEnd()
}

// wordEnd is end for a word.
func (s scanner) wordEnd() int {
	end := s.start + 1
	for {
		c, next := s.at(end), s.at(end+1)
		switch {
		case isLetter(c) || isDigit(c):
			end++
		case c != '-' || next == '-':
			return end
		case isLetter(next) || isDigit(next):
			end += 2
		default:
			return s.start
		}
	}
}

// integerEnd is end for an integer.
func (s scanner) integerEnd() int {
	first := s.start
	negative := s.at(first) == '-'
	if negative {
		first++
	}
	end := first
	for isDigit(s.at(end)) {
		end++
	}
	digits := string(s.source[first:end])
	if digits[0] == '0' && (negative || len(digits) > 1) || isLetter(s.at(end)) {
		return s.start
	}
	// The digits alone: -2^63 would be an int, but is no integer.
	if _, err := strconv.Atoi(digits); err != nil {
		return s.start
	}
	return end
}

// quotedEnd is end for a quoted string.
func (s scanner) quotedEnd() int {
	end := s.start + 1
	for isQuotable(s.at(end)) {
		switch {
		case s.at(end) != quote:
			end++
		case s.at(end+1) == quote:
			end += 2
		default:
			return end + 1
		}
	}
	return s.start
}

// signEnd is end for a sign.
func (s scanner) signEnd() int {
	for _, text := range signs {
		if s.has(s.start, text) {
			return s.start + len(text)
		}
	}
	return s.start
}

// token makes the token of this kind that starts here and ends at end.
func (s scanner) token(kind, end int) Token {
	t := Token{Kind: kind, At: s.start}
	text := string(s.source[s.start:end])
	switch kind {
	case integer:
		// There is no error: integerEnd has refused what is too great.
		t.N, _ = strconv.Atoi(text)
	case quoted:
		t.Text = strings.ReplaceAll(text[1:len(text)-1], `""`, `"`)
	default:
		t.Text = text
	}
	return t
}
