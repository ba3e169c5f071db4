package dec_test

import (
	"testing"

	"spandrel/api"
)

// fragment is a type, and digits of it that are an error in both variants.
type fragment struct {
	text   string
	digits string
	e      api.Errno
}

// faults are digits that are an error of each package, in a value that follows a
// bit, and of each of the errors that this package has of its own.
func faults() []fragment {
	return []fragment{
		// stream
		{"OCTET STRING (SIZE (2))", "", api.ErrShort},
		// whole
		{"INTEGER (0..2)", "11", api.ErrConstraint},
		// length
		{"SEQUENCE OF NULL", "- 11000000", api.ErrForm},
		{"ENUMERATED { a, ... }", "1 1 - 00000001 00000001", api.ErrForm},
		{"ENUMERATED { a, ... }", "1 1 - 00001000 11111111" + sevens(ones), api.ErrLarge},
		// open
		{"INTEGER", "- 00000010 00000000 00000001", api.ErrForm},
		{"INTEGER (1..MAX)", "- 00001000 11111111" + sevens(ones), api.ErrLarge},
		{"SEQUENCE { ... }", "1 0 000000 1 - 11000101", api.ErrForm},
		// strings
		{`IA5String (FROM ("abc")) (SIZE (1))`, "11", api.ErrConstraint},
		{"OCTET STRING (SIZE (1..2))", "0", api.ErrShort},
		// and what this package asks for
		{"INTEGER (0..1 | 3)", "10", api.ErrConstraint},
		{"INTEGER (0..1, ...)", "1 - 00000001 00000001", api.ErrForm},
		{"BIT STRING (SIZE (0..1 | 3))", "10 - 11", api.ErrConstraint},
		{"BIT STRING (SIZE (0..1, ...))", "1 - 00000000", api.ErrForm},
		{"SEQUENCE (SIZE (0..1 | 3)) OF NULL", "10", api.ErrConstraint},
		{"SEQUENCE (SIZE (0..1, ...)) OF NULL", "1 - 00000001", api.ErrForm},
		{"ENUMERATED { a, ... }", "1 0 000000", api.ErrUnknown},
		{"CHOICE { a NULL, ... }", "1 0 000000 - 00000000", api.ErrUnknown},
		{"SEQUENCE { a BOOLEAN DEFAULT TRUE }", "1 1", api.ErrForm},
		{"SEQUENCE { ... }", "1 0 000000 0", api.ErrForm},
		{"SEQUENCE { ..., a NULL }", "1 0 000000 1 - 00000001 00000001", api.ErrForm},
	}
}

// P17.1: each error, alone and as the first of two, of which it tells.
func TestFirstError(t *testing.T) {
	for _, x := range faults() {
		if x.e == api.ErrShort {
			// Nothing can follow where the bits end.
			for _, aligned := range variants {
				if v, e := hold(t, rows(t, x.text), aligned, packOf(spelled(x.digits))); e != x.e {
					t.Error(x.text, shown(v), e)
				}
			}
			continue
		}
		decoded(t, rows(t, "SEQUENCE { p0 BOOLEAN, p1 "+x.text+" }"), wrong(x.e, "1"+x.digits))
		decoded(t, rows(t, "SEQUENCE { p0 BOOLEAN, p1 "+x.text+", ..., p2 BOOLEAN }"), wrong(x.e, "11"+x.digits+ones))
		for _, y := range faults() {
			decoded(t, rows(t, "SEQUENCE { p0 BOOLEAN, p1 "+x.text+", p2 "+y.text+" }"), wrong(x.e, "1"+x.digits+y.digits))
			decoded(t, rows(t, "SEQUENCE { p0 BOOLEAN, p1 CHOICE { a "+x.text+" }, p2 SEQUENCE OF "+y.text+" }"), wrong(x.e, "1"+x.digits+"- 00000001"+y.digits))
		}
	}
	// What stream.Reader.End refuses is told last.
	d := rows(t, "SEQUENCE { a INTEGER (0..2), b BOOLEAN }")
	octetsAre(t, d, api.ErrConstraint, api.Value{}, 0b11011111, 255)
	octetsAre(t, d, api.ErrForm, api.Value{}, 0b10011111, 255)
	octetsAre(t, d, api.OK, seq("a b", integer(2), boolean(0)), 0b10000000)
}

// P17.1: that bits end is told wherever they do.
func TestShort(t *testing.T) {
	for _, x := range samples() {
		d := rows(t, x.text)
		for _, v := range x.values {
			for _, aligned := range variants {
				b := encodedAs(t, d, aligned, v)
				for k := range b {
					if x, e := hold(t, d, aligned, b[:k]); e == api.OK && len(b) > 1 {
						t.Errorf("%s by %s, aligned %v: %s", shown(b[:k]), shown(d), aligned, shown(x))
					}
				}
			}
		}
	}
}
