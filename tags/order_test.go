package tags_test

import (
	"slices"
	"testing"

	"spandrel/api"
)

// P13.3: the least tags of parts, which may be the same, and which parts may lack.
func TestOrder(t *testing.T) {
	for _, x := range []struct {
		text string
		want []int
	}{
		// The chapter's example.
		{"CHOICE { a NULL, b BOOLEAN }", []int{1, 0}},
		{"CHOICE { a BOOLEAN, b NULL }", []int{0, 1}},
		{"CHOICE { a NULL }", []int{0}},
		{"CHOICE { a IA5String, b SEQUENCE { }, c ENUMERATED { a }, d NULL, e OCTET STRING, f BIT STRING, g INTEGER, h BOOLEAN }", []int{7, 6, 5, 4, 3, 2, 1, 0}},
		{"CHOICE { a OCTET STRING, b IA5String, c BOOLEAN, d SEQUENCE OF NULL, e INTEGER, f NULL, g BIT STRING, h ENUMERATED { a } }", []int{2, 4, 6, 0, 5, 7, 3, 1}},
		// What is equal keeps its order.
		{"CHOICE { a NULL, b NULL, c NULL }", []int{0, 1, 2}},
		{"CHOICE { a NULL, b BOOLEAN, c NULL, d BOOLEAN, e NULL }", []int{1, 3, 0, 2, 4}},
		{"CHOICE { a IA5String, b SEQUENCE OF NULL, c SEQUENCE { }, d SEQUENCE OF NULL, e NULL }", []int{4, 1, 2, 3, 0}},
		// Only the least tag of a part matters.
		{"CHOICE { a CHOICE { a IA5String, b BOOLEAN }, b INTEGER }", []int{0, 1}},
		{"CHOICE { a CHOICE { a IA5String, b NULL }, b INTEGER }", []int{1, 0}},
		{"CHOICE { a CHOICE { a IA5String, b INTEGER }, b CHOICE { a NULL, b INTEGER }, c CHOICE { a INTEGER }, d BOOLEAN }", []int{3, 0, 1, 2}},
		{"CHOICE { a NULL, b CHOICE { a IA5String, ..., b CHOICE { a SEQUENCE { }, b BIT STRING } }, c OCTET STRING }", []int{1, 2, 0}},
		{"CHOICE { a INTEGER, b SEQUENCE { a BOOLEAN }, c SEQUENCE OF BOOLEAN }", []int{0, 1, 2}},
		// The Adds are not in it.
		{"CHOICE { a NULL, b BOOLEAN, ..., c INTEGER }", []int{1, 0}},
		{"CHOICE { a NULL, ..., b BOOLEAN, c INTEGER }", []int{0}},
		// So for a SEQUENCE.
		{"SEQUENCE { a NULL, b BOOLEAN OPTIONAL, c INTEGER DEFAULT 5, ..., d BOOLEAN }", []int{1, 2, 0}},
		{"SEQUENCE { ..., a NULL }", nil},
		{"SEQUENCE OF CHOICE { a NULL, b BOOLEAN }", nil},
		{"NULL", nil},
		// Refs. Automatic tags are greater than all others, and the same.
		{"CHOICE { a M-Str, b M-Bool }", []int{1, 0}},
		{"CHOICE { a M-Auto, b IA5String, c M-Auto, d M-Bool, e M-Auto3 }", []int{3, 1, 0, 2, 4}},
		{"CHOICE { a M-Auto3, b M-Auto }", []int{0, 1}},
		{"CHOICE { a M-Mixed, b NULL, c M-Auto, d M-Str, e M-Mixed }", []int{1, 0, 4, 3, 2}},
		{"CHOICE { a M-AutoSeq, b M-Str, c INTEGER }", []int{2, 0, 1}},
		{"CHOICE { a NULL, b M-Circle }", []int{1, 0}},
		{"CHOICE { a NULL, b M-Circle2, c INTEGER }", []int{2, 1, 0}},
		// What has no tags comes first, in its order.
		{"CHOICE { a BOOLEAN, b M-Gone }", []int{1, 0}},
		{"CHOICE { a M-Gone, b BOOLEAN }", []int{0, 1}},
		{"CHOICE { a NULL, b M-Gone, c M-None, d BOOLEAN, e CHOICE { a M-Gone, b M-Round }, f M-Round, g M-Auto }", []int{1, 2, 4, 5, 3, 0, 6}},
		{"CHOICE { a M-Round, b M-None, c M-Gone }", []int{0, 1, 2}},
		{"CHOICE { a NULL, b CHOICE { a M-Gone, b BOOLEAN }, c M-AutoNone }", []int{2, 1, 0}},
		{"M-Str", nil},
		{"M-Mixed", nil},
		{"M-Gone", nil},
	} {
		l := entries(t, `M-Bool ::= BOOLEAN
			M-Str ::= IA5String
			M-Bool ::= M-Str
			auto M-Auto ::= CHOICE { a BOOLEAN, b NULL }
			auto M-Auto3 ::= CHOICE { a BOOLEAN, b NULL, c NULL }
			auto M-AutoSeq ::= SEQUENCE { a BOOLEAN }
			M-Mixed ::= CHOICE { a M-Auto, b IA5String, c SEQUENCE { } }
			M-Circle ::= CHOICE { a M-Circle2, b M-Gone }
			M-Circle2 ::= CHOICE { a M-Circle, b OCTET STRING, c M-Auto }
			M-Round ::= M-Round2
			M-Round2 ::= CHOICE { a M-Round, b M-Round2 }
			M-None ::=
			auto M-AutoNone ::=`)
		choice := typ(t, x.text)
		holdOrder(t, l, false, choice, x.want)
		slices.Sort(x.want)
		holdOrder(t, l, true, choice, x.want)
	}
	for _, auto := range []bool{false, true} {
		holdOrder(t, nil, auto, api.Type{}, nil)
		holdOrder(t, nil, auto, api.Type{Kind: api.Choice, Parts: []api.Part{}, Adds: []api.Part{{}, {}}}, nil)
	}
}

// P13.3: it is the Parts that are ordered, whatever Kind they are of, and whatever
// else they and the type have.
func TestOrderKinds(t *testing.T) {
	var parts []api.Part
	for k, text := range []string{"NULL", "", "BOOLEAN", "SEQUENCE OF NULL", "", "INTEGER", "BOOLEAN"} {
		p := api.Part{Name: "a", T: typ(t, text), Opt: k%2 == 0}
		p.Def = make([]api.Value, k%3)
		parts = append(parts, p)
	}
	for kind := range 13 {
		x := api.Type{Kind: kind, Ext: true, Name: "M.A", Parts: parts, Adds: parts[2:], Elem: []api.Type{parts[0].T}}
		l := []api.Entry{{Module: "M", Name: "A", Auto: true, T: x}}
		holdOrder(t, l, false, x, []int{1, 4, 2, 6, 5, 0, 3})
		holdOrder(t, l, true, x, []int{0, 1, 2, 3, 4, 5, 6})
	}
	for _, kind := range otherKinds {
		x := api.Type{Kind: api.Choice, Parts: []api.Part{{T: typ(t, "BOOLEAN")}, {T: api.Type{Kind: kind, Parts: parts}}, {T: typ(t, "BOOLEAN")}}}
		holdOrder(t, nil, false, x, []int{1, 0, 2})
	}
}

// P13.3: each two, and each three, of some types.
func TestOrderEach(t *testing.T) {
	l := entries(t, "M-A ::= CHOICE { a M-B, b IA5String, ..., c INTEGER }\nauto M-B ::= CHOICE { a NULL }\nM-C ::= CHOICE { a M-B, b M-C }")
	texts := []string{"", "BOOLEAN", "INTEGER", "NULL", "SEQUENCE OF NULL", "SEQUENCE { }", "IA5String", "M-A", "M-B", "M-C", "M-D"}
	for _, a := range texts {
		for _, b := range texts {
			for _, c := range texts {
				x := choice(typ(t, a), typ(t, b), typ(t, c))
				holdOrder(t, l, false, x, modelOrder(l, false, x))
				holdOrder(t, l, true, x, []int{0, 1, 2})
			}
		}
	}
}
