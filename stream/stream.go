// Package stream writes and reads bits, and aligns them to octets on request.
package stream

// isWidth tells whether a number can have this many bits.
func isWidth(width int) bool {
	return 0 <= width && width <= 64
}

// gap is the number of bits from a position to the next multiple of 8.
func gap(pos int) int {
	return (8 - pos%8) % 8
}
