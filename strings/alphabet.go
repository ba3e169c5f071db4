package strings

import "spandrel/octets"

const (
	// The codes of characters are below this one.
	codes = 128
	// none is what a table holds where there is nothing.
	none = -1
)

// table holds a number for some octets, and none for the others.
type table [256]int

// Width is how many bits a character of the alphabet takes.
func Width(from string, aligned bool) int {
	if !isAlphabet(from) {
		return 0
	}
	width := octets.Width(uint64(len(spelled(from)) - 1))
	if !aligned {
		return width
	}
	for _, wide := range [...]int{0, 1, 2, 4} {
		if wide >= width {
			return wide
		}
	}
	return 8
}

// isAlphabet tells whether the characters of from have codes of characters, in
// strictly increasing order.
func isAlphabet(from string) bool {
	for i := range len(from) {
		if from[i] >= codes || i > 0 && from[i] <= from[i-1] {
			return false
		}
	}
	return true
}

// spelled is the characters of an alphabet, which are all if it is empty.
func spelled(from string) string {
	if from != "" {
		return from
	}
	var all [codes]byte
	for code := range all {
		all[code] = byte(code)
	}
	return string(all[:])
}

// numbers holds the number of each character of an alphabet, by its code.
func numbers(from string, aligned bool) table {
	number, all := blank(), spelled(from)
	byIndex := int(all[len(all)-1]) >= 1<<Width(from, aligned)
	for i := range len(all) {
		number[all[i]] = int(all[i])
		if byIndex {
			number[all[i]] = i
		}
	}
	return number
}

// characters holds the code of each character of an alphabet, by its number.
func characters(from string, aligned bool) table {
	character := blank()
	for code, number := range numbers(from, aligned) {
		if number != none {
			character[number] = code
		}
	}
	return character
}

// blank holds nothing.
func blank() table {
	var t table
	for i := range t {
		t[i] = none
	}
	return t
}

// hasAll tells whether there is a number for each of these octets.
func (t table) hasAll(b []byte) bool {
	for _, o := range b {
		if t[o] == none {
			return false
		}
	}
	return true
}
