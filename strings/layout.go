package strings

const (
	greatestNarrow = 65535
	// On so many bits in total hangs whether units begin with an octet.
	twoOctets = 16
)

// layout is what hangs on the type of a string, not on its units.
type layout struct {
	aligned bool
	lo, hi  int
	// width is how many bits a unit has.
	width int
	// text tells whether the units are characters.
	text bool
}

// valid tells whether a size can have these bounds.
func (l layout) valid() bool {
	return l.lo >= 0 && (l.hi < 0 || l.hi >= l.lo)
}

// narrow tells whether the size is written as a number between its bounds.
func (l layout) narrow() bool {
	return 0 <= l.hi && l.hi <= greatestNarrow
}

// fixed tells whether the size is known, so that it is not written.
func (l layout) fixed() bool {
	return l.narrow() && l.hi == l.lo
}

// admits tells whether n is between the bounds.
func (l layout) admits(n int) bool {
	return n >= l.lo && (l.hi < 0 || n <= l.hi)
}

// aligns tells whether n units begin with an octet: all of them if the size is
// fixed, a fragment of them otherwise.
func (l layout) aligns(n int) bool {
	switch {
	case !l.aligned || n == 0:
		return false
	case l.fixed():
		return n*l.width > twoOctets
	}
	return !l.text || !l.narrow() || l.hi*l.width >= twoOctets
}
