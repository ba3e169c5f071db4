package enc_test

import (
	"fmt"
	"strings"
	"testing"

	"spandrel/api"
)

// P16.1: Seq with parts that are required, or Opt.
func TestParts(t *testing.T) {
	encoded(t, rows(t, "SEQUENCE { }"), same(seq(""), ""))
	encoded(t, rows(t, "SEQUENCE { a NULL }"), same(seq("a", null()), ""))
	encoded(t, rows(t, "SEQUENCE { b INTEGER (0..7), a BOOLEAN }"), same(seq("b a", integer(5), boolean(1)), "101 1"))
	d := rows(t, "SEQUENCE { a BOOLEAN OPTIONAL, b NULL, c INTEGER (0..7) OPTIONAL, d BOOLEAN, e SEQUENCE OF NULL OPTIONAL }")
	encoded(t, d, same(seq("b d", null(), boolean(1)), "000 1"), same(seq("a b d", boolean(0), null(), boolean(1)), "100 0 1"),
		same(seq("b c d", null(), integer(6), boolean(0)), "010 110 0"), aligning(seq("b d e", null(), boolean(1), list()), "001 1 - 00000000"),
		aligning(seq("a b c d e", boolean(1), null(), integer(1), boolean(1), list(null())), "111 1 001 1 - 00000001"))
	fails(t, d, api.ErrConstraint, seq("a b", boolean(1), null()), seq("d b", boolean(1), null()), seq("b d f", null(), boolean(1), null()), seq("b d", null()), seq("b b d", null(), null(), boolean(1)), list(), alternative("b", null()))
	d = rows(t, "SEQUENCE { a NULL OPTIONAL, b NULL OPTIONAL }")
	encoded(t, d, same(seq(""), "00"), same(seq("a", null()), "10"), same(seq("b", null()), "01"), same(seq("a b", null(), null()), "11"))
	// The bits of a Seq within are ahead of its own parts.
	d = rows(t, "SEQUENCE { a BOOLEAN OPTIONAL, b SEQUENCE { c NULL OPTIONAL, d BOOLEAN OPTIONAL }, e BOOLEAN OPTIONAL }")
	encoded(t, d, same(seq("b e", seq("d", boolean(1)), boolean(0)), "01 01 1 0"), same(seq("a b", boolean(1), seq("c d", null(), boolean(0))), "10 1 11 0"))
}

// P16.1, P16.2: Seq with parts that have a Def, of each Kind, told or not.
func TestDefaults(t *testing.T) {
	d := rows(t, "SEQUENCE { a BOOLEAN DEFAULT TRUE, b NULL }")
	encoded(t, d, same(seq("b", null()), "0"), same(seq("a b", boolean(1), null()), "0"), same(seq("a b", boolean(0), null()), "1 0"))
	d = rows(t, "SEQUENCE { a INTEGER (0..7) DEFAULT 5 }")
	encoded(t, d, same(seq(""), "0"), same(seq("a", integer(5)), "0"), same(seq("a", integer(0)), "1 000"))
	d = rows(t, "SEQUENCE { a INTEGER DEFAULT 0 }")
	encoded(t, d, same(seq(""), "0"), same(seq("a", integer(0)), "0"), aligning(seq("a", integer(1)), "1 - 00000001 00000001"))
	d = rows(t, "SEQUENCE { a ENUMERATED { x, y } DEFAULT y }")
	encoded(t, d, same(seq(""), "0"), same(seq("a", item("y")), "0"), same(seq("a", item("x")), "1 0"))
	d = rows(t, `SEQUENCE { a IA5String (FROM ("ab")) (SIZE (0..3)) DEFAULT "ab" }`)
	encoded(t, d, same(seq(""), "0"), same(seq("a", str("ab")), "0"), same(seq("a", str("ba")), "1 10 10"), same(seq("a", str("")), "1 00"))
	d = rows(t, `SEQUENCE { a IA5String DEFAULT "" }`)
	encoded(t, d, same(seq(""), "0"), same(seq("a", str("")), "0"), row{seq("a", str("a")), "1 00000001 1100001", "1 - 00000001 01100001"})
	// Lists without elements are the same, be they nil or not.
	told := api.Value{Kind: api.Bool, N: 1, Names: []string{}, L: []api.Value{}}
	encoded(t, rows(t, "SEQUENCE { a BOOLEAN DEFAULT TRUE }"), same(seq("a", told), "0"))
	// Beside parts that are Opt, and required, and within others.
	d = rows(t, "A ::= SEQUENCE { a BOOLEAN DEFAULT TRUE, b NULL OPTIONAL, c INTEGER (0..3) DEFAULT 2, d BOOLEAN, e A OPTIONAL }")
	encoded(t, d, same(seq("d", boolean(1)), "0000 1"), same(seq("a c d", boolean(1), integer(2), boolean(1)), "0000 1"),
		same(seq("a b c d", boolean(0), null(), integer(3), boolean(1)), "1110 0 11 1"), same(seq("c d e", integer(2), boolean(0), seq("a d", boolean(1), boolean(1))), "0001 0 0000 1"))
	fails(t, d, api.ErrConstraint, seq("a", boolean(1)), seq("a d", integer(1), boolean(1)), seq("c d", integer(4), boolean(1)))
}

// P16.1: Seq with Ext, of whose Adds none, one, some and all are encoded.
func TestAdds(t *testing.T) {
	encoded(t, rows(t, "SEQUENCE { ... }"), same(seq(""), "0"))
	encoded(t, rows(t, "SEQUENCE { a BOOLEAN, ... }"), same(seq("a", boolean(1)), "0 1"))
	encoded(t, rows(t, "SEQUENCE { a BOOLEAN OPTIONAL, b NULL OPTIONAL, ... }"), same(seq("a", boolean(1)), "0 10 1"))
	d := rows(t, "SEQUENCE { a NULL, ..., b BOOLEAN, c INTEGER DEFAULT 5 }")
	encoded(t, d, same(seq("a", null()), "0"), same(seq("a c", null(), integer(5)), "0"),
		aligning(seq("a b", null(), boolean(1)), "1 0 000001 10 - 00000001 10000000"),
		aligning(seq("a b c", null(), boolean(1), integer(5)), "1 0 000001 10 - 00000001 10000000"),
		aligning(seq("a c", null(), integer(6)), "1 0 000001 01 - 00000010 00000001 00000110"),
		aligning(seq("a b c", null(), boolean(0), integer(-1)), "1 0 000001 11 - 00000001 00000000 00000010 00000001 11111111"))
	fails(t, d, api.ErrConstraint, seq("b", boolean(1)), seq("a c b", null(), integer(6), boolean(1)), seq("b a", boolean(1), null()), seq("a b", null(), null()), seq("a d", null(), null()))
	// The bits of Parts are behind the first bit, their values ahead of the Adds.
	d = rows(t, "SEQUENCE { a BOOLEAN OPTIONAL, b BOOLEAN DEFAULT TRUE, ..., c NULL, d BOOLEAN }")
	encoded(t, d, same(seq("a", boolean(1)), "0 10 1"), aligning(seq("a d", boolean(1), boolean(1)), "1 10 1 0 000001 01 - 00000001 10000000"),
		aligning(seq("b c", boolean(0), null()), "1 01 0 0 000001 10 - 00000001 00000000"), aligning(seq("b c d", boolean(1), null(), boolean(0)), "1 00 0 000001 11 - 00000001 00000000 00000001 00000000"))
	// Opt says nothing of an addition.
	encoded(t, rows(t, "SEQUENCE { ..., a NULL OPTIONAL, b NULL }"), same(seq(""), "0"), aligning(seq("a", null()), "1 0 000001 10 - 00000001 00000000"), aligning(seq("a b", null(), null()), "1 0 000001 11 - 00000001 00000000 00000001 00000000"))
	encoded(t, rows(t, "SEQUENCE { ..., a SEQUENCE { } }"), aligning(seq("a", seq("")), "1 0 000000 1 - 00000001 00000000"))
	// An addition's own stream is aligned where it begins.
	d = rows(t, "SEQUENCE { ..., b SEQUENCE { p0 BOOLEAN, p1 INTEGER (0..255) }, c NULL }")
	encoded(t, d, row{seq("b", all(boolean(1), integer(5))), "1 0 000001 10 00000010 10000010 10000000", "1 0 000001 10 - 00000010 10000000 00000101"})
	// Additions of additions.
	d = rows(t, "A ::= SEQUENCE { a BOOLEAN DEFAULT TRUE, ..., b A }")
	encoded(t, d, row{seq("b", seq("b", seq("a", boolean(0)))), "1 0 0000000 1 00000100 1 0 0000000 1 00000001 01000000 000000", "1 0 0000000 1 - 00000100 1 0 0000000 1 - 00000001 01000000"})
	// After a value with additions, the next one follows at once.
	d = rows(t, "SEQUENCE OF SEQUENCE { ..., b NULL }")
	encoded(t, d, aligning(list(seq("b", null()), seq(""), seq("b", null())), "00000011 1 0 000000 1 - 00000001 00000000 0 1 0 000000 1 - 00000001 00000000"))
}

// P16.1: Seq with 64 Adds, 65, and others.
func TestAddsMany(t *testing.T) {
	for _, n := range []int{1, 2, 63, 64, 65, 66, 127, 128, 129, 256} {
		d := rows(t, "SEQUENCE { ..., "+numbered("m", n, " BOOLEAN")+" }")
		head := fmt.Sprintf("1 0 %06b ", n-1)
		switch {
		case n > 127:
			head = fmt.Sprintf("1 1 - 10 %014b ", n)
		case n > 64:
			head = fmt.Sprintf("1 1 - %08b ", n)
		}
		encoded(t, d, same(seq(""), "0"))
		whole, behind := seq(""), ""
		for k := range n {
			name := fmt.Sprint("m", k)
			whole.Names, whole.L = append(whole.Names, name), append(whole.L, boolean(k%2))
			behind += fmt.Sprintf("00000001 %d0000000", k%2)
			if k < 2 || k > n-3 || k == 63 || k == 64 {
				encoded(t, d, aligning(seq(name, boolean(1)), head+strings.Repeat("0", k)+"1"+strings.Repeat("0", n-1-k)+"- 00000001 10000000"))
			}
		}
		encoded(t, d, aligning(whole, head+strings.Repeat("1", n)+"-"+behind))
	}
}

// P16.1: Seq with as many parts as there may be.
func TestPartsMany(t *testing.T) {
	d := rows(t, "SEQUENCE { "+numbered("n", 256, " BOOLEAN DEFAULT TRUE")+" }")
	encoded(t, d, same(seq(""), strings.Repeat("0", 256)), same(seq("n7 n255", boolean(0), boolean(1)), "0000000 1"+strings.Repeat("0", 248)+"0"),
		same(seq("n7 n255", boolean(1), boolean(0)), strings.Repeat("0", 255)+"1 0"), same(seq("n0 n100 n255", boolean(0), boolean(0), boolean(0)), "1"+strings.Repeat("0", 99)+"1"+strings.Repeat("0", 154)+"1 000"))
}
