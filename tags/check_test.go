package tags_test

import (
	"slices"
	"testing"

	"spandrel/api"
	"spandrel/tags"
)

// areDistinct tells whether no two entries have the same full name.
func areDistinct(l []api.Entry) bool {
	seen := map[string]bool{}
	for _, e := range l {
		seen[e.Module+"."+e.Name] = true
	}
	return len(seen) == len(l)
}

// checkAll holds what Check answers for entries in this order and, if none of
// them hides another one, in the other order, and among others.
func checkAll(t *testing.T, l []api.Entry, want api.Errno) {
	t.Helper()
	holdCheck(t, l, want)
	right := entries(t, "R-A ::= CHOICE { a NULL, b BOOLEAN }\nauto R-B ::= SEQUENCE { a NULL OPTIONAL, b NULL }")
	holdCheck(t, slices.Concat(right[:1], l, right[1:]), want)
	wrong := entries(t, "W-A ::= CHOICE { a NULL, b NULL }")
	holdCheck(t, slices.Concat(wrong, l), api.ErrTag)
	holdCheck(t, slices.Concat(l, wrong), api.ErrTag)
	// P13.4.
	holdCheck(t, withAuto(l, true), api.OK)
	if areDistinct(l) {
		turned := slices.Clone(l)
		slices.Reverse(turned)
		holdCheck(t, turned, want)
	}
}

// check holds what Check answers for the entries of a text.
func check(t *testing.T, text string, want api.Errno) {
	t.Helper()
	checkAll(t, entries(t, text), want)
}

// P13.2: the parts of a Choice, all of which must be distinguishable.
func TestCheckChoice(t *testing.T) {
	for text, want := range map[string]api.Errno{
		// The chapter's example.
		"CHOICE { a NULL, b BOOLEAN }": api.OK,
		"CHOICE { a NULL }":            api.OK,
		"CHOICE { a NULL, ... }":       api.OK,
		"CHOICE { a NULL, b NULL }":    api.ErrTag,
		"CHOICE { a BOOLEAN, b INTEGER, c ENUMERATED { a }, d NULL, e BIT STRING, f OCTET STRING, g IA5String, h SEQUENCE { } }": api.OK,
		// Whichever two of them it is.
		"CHOICE { a NULL, b NULL, c BOOLEAN }":             api.ErrTag,
		"CHOICE { a NULL, b BOOLEAN, c NULL }":             api.ErrTag,
		"CHOICE { a BOOLEAN, b NULL, c NULL }":             api.ErrTag,
		"CHOICE { a NULL, b BOOLEAN, c INTEGER, d NULL }":  api.ErrTag,
		"CHOICE { a NULL, ..., b NULL }":                   api.ErrTag,
		"CHOICE { a NULL, ..., b BOOLEAN }":                api.OK,
		"CHOICE { a NULL, b BOOLEAN, ..., c NULL }":        api.ErrTag,
		"CHOICE { a BOOLEAN, b NULL, ..., c NULL }":        api.ErrTag,
		"CHOICE { a BOOLEAN, b NULL, ..., c INTEGER }":     api.OK,
		"CHOICE { a INTEGER, ..., b NULL, c NULL }":        api.ErrTag,
		"CHOICE { a NULL, ..., b BOOLEAN, c NULL }":        api.ErrTag,
		"CHOICE { a NULL, ..., b BOOLEAN, c BOOLEAN }":     api.ErrTag,
		"CHOICE { a NULL, ..., b BOOLEAN, c IA5String }":   api.OK,
		"CHOICE { a NULL, ..., b INTEGER, c SEQUENCE { }}": api.OK,
		// Only the tag matters.
		"CHOICE { a INTEGER (0..7), b INTEGER (8..9) }":                            api.ErrTag,
		"CHOICE { a ENUMERATED { a }, b ENUMERATED { b } }":                        api.ErrTag,
		"CHOICE { a SEQUENCE { }, b SEQUENCE OF NULL }":                            api.ErrTag,
		"CHOICE { a SEQUENCE OF NULL, b SEQUENCE OF BOOLEAN }":                     api.ErrTag,
		"CHOICE { a SEQUENCE { a NULL }, b SEQUENCE { a NULL, b BOOLEAN } }":       api.ErrTag,
		"CHOICE { a BIT STRING, b OCTET STRING, c IA5String }":                     api.OK,
		"CHOICE { a SEQUENCE { a NULL }, b NULL }":                                 api.OK,
		"CHOICE { a SEQUENCE { a BOOLEAN }, b BOOLEAN, c NULL, d IA5String }":      api.OK,
		"CHOICE { a BOOLEAN, b SEQUENCE OF CHOICE { a BOOLEAN, b SEQUENCE { } } }": api.OK,
		// A Choice within a Choice.
		"CHOICE { a CHOICE { a NULL } }":                                                                                                               api.OK,
		"CHOICE { a CHOICE { a NULL, b BOOLEAN } }":                                                                                                    api.OK,
		"CHOICE { a CHOICE { a NULL, b NULL } }":                                                                                                       api.ErrTag,
		"CHOICE { a BOOLEAN, b CHOICE { a NULL, ..., b NULL } }":                                                                                       api.ErrTag,
		"CHOICE { a BOOLEAN, ..., b CHOICE { a INTEGER, ..., b NULL, c NULL } }":                                                                       api.ErrTag,
		"CHOICE { a CHOICE { a NULL }, b NULL }":                                                                                                       api.ErrTag,
		"CHOICE { a NULL, b CHOICE { a NULL } }":                                                                                                       api.ErrTag,
		"CHOICE { a NULL, b CHOICE { a BOOLEAN, ..., b NULL } }":                                                                                       api.ErrTag,
		"CHOICE { a CHOICE { a BOOLEAN, ..., b NULL }, ..., b NULL }":                                                                                  api.ErrTag,
		"CHOICE { a NULL, ..., b CHOICE { a BOOLEAN, b NULL } }":                                                                                       api.ErrTag,
		"CHOICE { a NULL, b CHOICE { a BOOLEAN, b INTEGER }, c IA5String }":                                                                            api.OK,
		"CHOICE { a CHOICE { a NULL, b INTEGER }, b CHOICE { a BOOLEAN, b INTEGER } }":                                                                 api.ErrTag,
		"CHOICE { a CHOICE { a NULL, b INTEGER }, b CHOICE { a BOOLEAN, b OCTET STRING }, ..., c CHOICE { a SEQUENCE { } } }":                          api.OK,
		"CHOICE { a CHOICE { a CHOICE { a NULL } }, b CHOICE { a CHOICE { a NULL } } }":                                                                api.ErrTag,
		"CHOICE { a CHOICE { a CHOICE { a NULL, b INTEGER }, b BOOLEAN }, b BIT STRING, c CHOICE { a CHOICE { a OCTET STRING, b SEQUENCE { } } } }":    api.OK,
		"CHOICE { a CHOICE { a CHOICE { a NULL, b INTEGER }, b BOOLEAN }, b BIT STRING, c CHOICE { a CHOICE { a OCTET STRING, ..., b BIT STRING } } }": api.ErrTag,
	} {
		check(t, "M-A ::= "+text, want)
		check(t, "M-A ::= M-B\nM-B ::= "+text, want)
		check(t, "auto M-A ::= SEQUENCE { a M-B OPTIONAL, b M-B }\nM-B ::= "+text, want)
		check(t, "M-A ::= M-B\nauto M-B ::= "+text, api.OK)
	}
}

// P13.2: the parts of a Seq, of which those must be distinguishable that follow
// one that may be missing.
func TestCheckSeq(t *testing.T) {
	for text, want := range map[string]api.Errno{
		// The chapter's example.
		"{ a NULL OPTIONAL, b NULL }": api.ErrTag,
		"{ }":                         api.OK,
		"{ ... }":                     api.OK,
		"{ a NULL }":                  api.OK,
		"{ a NULL OPTIONAL }":         api.OK,
		"{ ..., a NULL }":             api.OK,
		// What is there in any case.
		"{ a NULL, b NULL }":                              api.OK,
		"{ a NULL, b NULL, c NULL }":                      api.OK,
		"{ a NULL, b NULL OPTIONAL }":                     api.OK,
		"{ a NULL, b NULL DEFAULT 5 }":                    api.OK,
		"{ a NULL, ..., b NULL }":                         api.OK,
		"{ a NULL, b BOOLEAN OPTIONAL, c NULL }":          api.OK,
		"{ a NULL, b BOOLEAN OPTIONAL, c NULL OPTIONAL }": api.OK,
		"{ a NULL, b BOOLEAN OPTIONAL, ..., c NULL }":     api.OK,
		// What follows directly.
		"{ a NULL OPTIONAL, b BOOLEAN }":                         api.OK,
		"{ a NULL OPTIONAL, b BOOLEAN OPTIONAL }":                api.OK,
		"{ a NULL OPTIONAL, b NULL OPTIONAL }":                   api.ErrTag,
		"{ a NULL OPTIONAL, b NULL DEFAULT 5 }":                  api.ErrTag,
		"{ a NULL DEFAULT 5, b NULL }":                           api.ErrTag,
		"{ a NULL DEFAULT 5, b NULL OPTIONAL }":                  api.ErrTag,
		"{ a NULL DEFAULT 5, b NULL DEFAULT 5 }":                 api.ErrTag,
		"{ a INTEGER DEFAULT 5, b NULL, c BOOLEAN }":             api.OK,
		"{ a NULL OPTIONAL, ..., b NULL }":                       api.ErrTag,
		"{ a NULL DEFAULT 5, ..., b NULL }":                      api.ErrTag,
		"{ a NULL OPTIONAL, ..., b BOOLEAN }":                    api.OK,
		"{ ..., a NULL, b NULL }":                                api.ErrTag,
		"{ ..., a NULL, b BOOLEAN }":                             api.OK,
		"{ ..., a NULL OPTIONAL, b NULL DEFAULT 5 }":             api.ErrTag,
		"{ a BOOLEAN, b NULL OPTIONAL, c NULL }":                 api.ErrTag,
		"{ a SEQUENCE { } OPTIONAL, b SEQUENCE OF NULL }":        api.ErrTag,
		"{ a SEQUENCE { a NULL } OPTIONAL, b NULL }":             api.OK,
		"{ a NULL OPTIONAL, b SEQUENCE { a NULL } }":             api.OK,
		"{ a BIT STRING OPTIONAL, b OCTET STRING }":              api.OK,
		"{ a INTEGER (0..7) DEFAULT 5, b INTEGER (8..9) }":       api.ErrTag,
		"{ a ENUMERATED { a } DEFAULT a, b ENUMERATED { b, c }}": api.ErrTag,
		// What follows behind others that may be missing, too.
		"{ a NULL OPTIONAL, b BOOLEAN OPTIONAL, c NULL }":                                     api.ErrTag,
		"{ a NULL OPTIONAL, b BOOLEAN DEFAULT 5, c NULL OPTIONAL }":                           api.ErrTag,
		"{ a NULL OPTIONAL, b BOOLEAN OPTIONAL, c INTEGER OPTIONAL, d NULL }":                 api.ErrTag,
		"{ a NULL OPTIONAL, b BOOLEAN OPTIONAL, c INTEGER OPTIONAL, d BOOLEAN }":              api.ErrTag,
		"{ a NULL OPTIONAL, b BOOLEAN OPTIONAL, c INTEGER OPTIONAL, d INTEGER }":              api.ErrTag,
		"{ a NULL OPTIONAL, b BOOLEAN OPTIONAL, c INTEGER DEFAULT 5, d IA5String }":           api.OK,
		"{ a NULL DEFAULT 5, b BOOLEAN OPTIONAL, ..., c NULL }":                               api.ErrTag,
		"{ a NULL OPTIONAL, ..., b BOOLEAN, c NULL }":                                         api.ErrTag,
		"{ a NULL OPTIONAL, ..., b BOOLEAN, c INTEGER, d NULL }":                              api.ErrTag,
		"{ a NULL OPTIONAL, ..., b BOOLEAN, c INTEGER, d BOOLEAN }":                           api.ErrTag,
		"{ a NULL, ..., b BOOLEAN, c INTEGER, d BOOLEAN }":                                    api.ErrTag,
		"{ a NULL, ..., b BOOLEAN, c INTEGER, d NULL }":                                       api.OK,
		"{ a NULL OPTIONAL, ..., b BOOLEAN, c INTEGER, d IA5String }":                         api.OK,
		"{ a NULL OPTIONAL, b BOOLEAN, ..., c NULL }":                                         api.OK,
		"{ a NULL OPTIONAL, b BOOLEAN, ..., c BOOLEAN, d NULL }":                              api.OK,
		"{ a NULL OPTIONAL, b BOOLEAN OPTIONAL, ..., c INTEGER, d BOOLEAN }":                  api.ErrTag,
		"{ a NULL OPTIONAL, b BOOLEAN OPTIONAL, c INTEGER, d NULL OPTIONAL, e BOOLEAN }":      api.OK,
		"{ a NULL OPTIONAL, b BOOLEAN OPTIONAL, c INTEGER, d NULL OPTIONAL, e NULL }":         api.ErrTag,
		"{ a NULL OPTIONAL, b BOOLEAN, c NULL OPTIONAL, d BOOLEAN, e NULL OPTIONAL }":         api.OK,
		"{ a NULL OPTIONAL, b BOOLEAN, c NULL, d BOOLEAN OPTIONAL, e NULL, f BOOLEAN }":       api.OK,
		"{ a NULL OPTIONAL, b BOOLEAN, c NULL, d NULL OPTIONAL, e NULL }":                     api.ErrTag,
		"{ a NULL OPTIONAL, b BOOLEAN, c BOOLEAN OPTIONAL, d NULL OPTIONAL, e BOOLEAN }":      api.ErrTag,
		"{ a NULL OPTIONAL, b BOOLEAN, c NULL OPTIONAL, ..., d NULL }":                        api.ErrTag,
		"{ a NULL OPTIONAL, b BOOLEAN, c BOOLEAN OPTIONAL, d INTEGER DEFAULT 1, ..., e NULL}": api.OK,
		// Parts that have several tags.
		"{ a CHOICE { a NULL, b BOOLEAN } OPTIONAL, b BOOLEAN }":                                             api.ErrTag,
		"{ a CHOICE { a NULL, b BOOLEAN } OPTIONAL, b INTEGER }":                                             api.OK,
		"{ a CHOICE { a NULL, b BOOLEAN }, b BOOLEAN }":                                                      api.OK,
		"{ a CHOICE { a NULL, b BOOLEAN }, b CHOICE { a NULL, b BOOLEAN } }":                                 api.OK,
		"{ a CHOICE { a NULL, b NULL } }":                                                                    api.ErrTag,
		"{ a NULL OPTIONAL, b CHOICE { a BOOLEAN, b NULL } }":                                                api.ErrTag,
		"{ a NULL OPTIONAL, b CHOICE { a BOOLEAN, ..., b NULL } }":                                           api.ErrTag,
		"{ a CHOICE { a IA5String, ..., b NULL } OPTIONAL, b CHOICE { a BOOLEAN, ..., b NULL } }":            api.ErrTag,
		"{ a CHOICE { a IA5String, ..., b NULL } OPTIONAL, b CHOICE { a BOOLEAN, ..., b INTEGER } }":         api.OK,
		"{ a CHOICE { a NULL } OPTIONAL, b BOOLEAN OPTIONAL, c CHOICE { a CHOICE { a NULL } } }":             api.ErrTag,
		"{ a CHOICE { a NULL } OPTIONAL, b BOOLEAN, c CHOICE { a CHOICE { a NULL } } }":                      api.OK,
		"{ ..., a CHOICE { a NULL, b IA5String }, b INTEGER, c CHOICE { a BOOLEAN, b IA5String } }":          api.ErrTag,
		"{ a CHOICE { a NULL, b INTEGER } DEFAULT 5, ..., b CHOICE { a BOOLEAN, b CHOICE { a INTEGER } } }":  api.ErrTag,
		"{ a CHOICE { a NULL, b INTEGER } DEFAULT 5, b IA5String, c CHOICE { a NULL, b INTEGER } OPTIONAL }": api.OK,
	} {
		check(t, "M-A ::= SEQUENCE "+text, want)
		check(t, "M-A ::= M-B\nM-B ::= SEQUENCE "+text, want)
		check(t, "auto M-A ::= CHOICE { a M-B, b M-B }\nM-B ::= SEQUENCE "+text, want)
		check(t, "M-A ::= M-B\nauto M-B ::= SEQUENCE "+text, api.OK)
	}
}

// P13.2: parts that are Refs have the tags of what these lead to.
func TestCheckRefs(t *testing.T) {
	for text, want := range map[string]api.Errno{
		"M-A ::= CHOICE { a M-B, b NULL }\nM-B ::= BOOLEAN":                                                                api.OK,
		"M-A ::= CHOICE { a M-B, b NULL }\nM-B ::= NULL":                                                                   api.ErrTag,
		"M-A ::= CHOICE { a NULL, b M-B }\nM-B ::= M-C\nM-C ::= M-D\nM-D ::= NULL":                                         api.ErrTag,
		"M-A ::= CHOICE { a M-B, b M-C }\nM-B ::= CHOICE { a NULL, b BOOLEAN }\nM-C ::= CHOICE { a INTEGER, b BOOLEAN }":   api.ErrTag,
		"M-A ::= CHOICE { a M-B, b M-C }\nM-B ::= CHOICE { a NULL, b BOOLEAN }\nM-C ::= CHOICE { a INTEGER, b IA5String }": api.OK,
		"M-A ::= CHOICE { a M-B, ..., b M-C }\nM-B ::= M-C\nM-C ::= NULL":                                                  api.ErrTag,
		"M-A ::= CHOICE { a M-B, b M-B }\nM-B ::= SEQUENCE { a M-A }":                                                      api.ErrTag,
		"M-A ::= SEQUENCE { a M-B OPTIONAL, b NULL }\nM-B ::= NULL":                                                        api.ErrTag,
		"M-A ::= SEQUENCE { a M-B OPTIONAL, b M-C DEFAULT 5, c NULL }\nM-B ::= CHOICE { a NULL }\nM-C ::= INTEGER":         api.ErrTag,
		"M-A ::= SEQUENCE { a M-B OPTIONAL, b M-C, c NULL }\nM-B ::= CHOICE { a NULL }\nM-C ::= INTEGER":                   api.OK,
		"M-A ::= SEQUENCE { a NULL OPTIONAL, ..., b M-B }\nM-B ::= CHOICE { a BOOLEAN, ..., b NULL }":                      api.ErrTag,
		"M-A ::= SEQUENCE { a SEQUENCE { } OPTIONAL, b M-A OPTIONAL }":                                                     api.ErrTag,
		"M-A ::= SEQUENCE { a NULL OPTIONAL, b M-A OPTIONAL }":                                                             api.OK,
		"M-A ::= SEQUENCE { a M-A OPTIONAL, b M-A OPTIONAL }":                                                              api.ErrTag,
		"M-A ::= SEQUENCE OF CHOICE { a M-A, b NULL }":                                                                     api.OK,
		"M-A ::= SEQUENCE OF CHOICE { a M-A, b SEQUENCE { } }":                                                             api.ErrTag,
		// To an entry that is not there, which has no tags.
		"M-A ::= CHOICE { a M-B, b NULL, c M-C, d M-B }":                          api.OK,
		"M-A ::= SEQUENCE { a M-B OPTIONAL, b M-B OPTIONAL, ..., c NULL, d M-B }": api.OK,
		"M-A ::= SEQUENCE { a NULL OPTIONAL, b M-B, c NULL }":                     api.OK,
		"M-A ::= SEQUENCE { a NULL OPTIONAL, b M-B OPTIONAL, c NULL }":            api.ErrTag,
		"M-A ::= CHOICE { a NULL, b M-B, c NULL }":                                api.ErrTag,
		// To a type of no Kind.
		"M-A ::= CHOICE { a M-B, b NULL, c M-C, d M-B }\nM-B ::=\nM-C ::=": api.OK,
		"M-A ::= SEQUENCE { a NULL OPTIONAL, b M-B, c NULL }\nM-B ::=":     api.OK,
		// To one whose Auto differs.
		"M-A ::= CHOICE { a M-B, b NULL }\nauto M-B ::= CHOICE { a NULL, b NULL }":                                                     api.OK,
		"M-A ::= CHOICE { a M-B, b M-C }\nauto M-B ::= CHOICE { a NULL }\nauto M-C ::= CHOICE { a BOOLEAN }":                           api.ErrTag,
		"M-A ::= CHOICE { a M-B, b M-C }\nauto M-B ::= CHOICE { a NULL }\nauto M-C ::= CHOICE { a BOOLEAN, b NULL, ..., c NULL }":      api.ErrTag,
		"M-A ::= CHOICE { a M-B, b M-C }\nauto M-B ::= CHOICE { a NULL }\nM-C ::= CHOICE { a BOOLEAN, b CHOICE { a M-B } }":            api.ErrTag,
		"M-A ::= CHOICE { a M-B, b M-C }\nauto M-B ::= CHOICE { a NULL }\nM-C ::= CHOICE { a BOOLEAN, b CHOICE { a IA5String } }":      api.OK,
		"M-A ::= CHOICE { a M-B, b NULL }\nauto M-B ::= NULL":                                                                          api.ErrTag,
		"M-A ::= CHOICE { a M-B, b SEQUENCE { } }\nauto M-B ::= SEQUENCE { a NULL }":                                                   api.ErrTag,
		"M-A ::= CHOICE { a M-B, b NULL }\nauto M-B ::= M-C\nM-C ::= CHOICE { a NULL }":                                                api.ErrTag,
		"M-A ::= CHOICE { a M-B, b NULL }\nM-B ::= M-C\nauto M-C ::= CHOICE { a NULL }":                                                api.OK,
		"M-A ::= SEQUENCE { a M-B OPTIONAL, b M-B }\nauto M-B ::= CHOICE { a NULL }":                                                   api.ErrTag,
		"M-A ::= SEQUENCE { a M-B OPTIONAL, b NULL }\nauto M-B ::= CHOICE { a NULL }":                                                  api.OK,
		"auto M-A ::= CHOICE { a M-B, b M-B, c M-C, d NULL }\nM-B ::= CHOICE { a NULL, b BOOLEAN }\nM-C ::= NULL":                      api.OK,
		"auto M-A ::= SEQUENCE { a M-B OPTIONAL, b M-B, ..., c M-C }\nM-B ::= CHOICE { a NULL, b BOOLEAN }\nM-C ::= NULL":              api.OK,
		"auto M-A ::= SEQUENCE { a M-B OPTIONAL, b M-B, ..., c M-C }\nM-B ::= CHOICE { a NULL, b NULL }\nM-C ::= NULL":                 api.ErrTag,
		"auto M-A ::= CHOICE { a CHOICE { a NULL, b NULL }, b CHOICE { a NULL, b NULL } }\nM-C ::= NULL":                               api.OK,
		"auto M-A ::= CHOICE { a CHOICE { a NULL, b NULL }, b CHOICE { a NULL, b NULL } }\nM-C ::= SEQUENCE { a M-A OPTIONAL, b M-A }": api.ErrTag,
		// To the first one of several; but each one is checked.
		"M-A ::= CHOICE { a M-B, b NULL }\nM-B ::= BOOLEAN\nM-B ::= NULL":                                api.OK,
		"M-A ::= CHOICE { a M-B, b NULL }\nM-B ::= NULL\nM-B ::= BOOLEAN":                                api.ErrTag,
		"M-B ::= BOOLEAN\nM-A ::= CHOICE { a M-B, b NULL }\nM-B ::= CHOICE { a NULL, b INTEGER }":        api.OK,
		"M-B ::= BOOLEAN\nM-A ::= CHOICE { a M-B, b NULL }\nM-B ::= CHOICE { a NULL, b NULL }":           api.ErrTag,
		"M-A ::= CHOICE { a NULL, b BOOLEAN }\nM-A ::= CHOICE { a NULL, b M-A }\nM-B ::= INTEGER":        api.ErrTag,
		"M-A ::= CHOICE { a NULL, b BOOLEAN }\nM-A ::= CHOICE { a INTEGER, b M-A }\nM-B ::= INTEGER":     api.OK,
		"auto M-B ::= CHOICE { a NULL }\nM-A ::= CHOICE { a M-B, b NULL }\nM-B ::= CHOICE { a NULL }":    api.OK,
		"M-B ::= CHOICE { a NULL }\nM-A ::= CHOICE { a M-B, b NULL }\nauto M-B ::= CHOICE { a BOOLEAN }": api.ErrTag,
		// Round in a circle.
		"M-A ::= M-A":              api.OK,
		"M-A ::= CHOICE { a M-A }": api.OK,
		"M-A ::= CHOICE { a M-A, b M-A, ..., c M-A }":                                                       api.OK,
		"M-A ::= CHOICE { a M-A, b NULL }":                                                                  api.ErrTag,
		"M-A ::= CHOICE { a NULL, ..., b M-A }":                                                             api.ErrTag,
		"M-A ::= CHOICE { a NULL, b CHOICE { a M-A } }":                                                     api.ErrTag,
		"M-A ::= CHOICE { a NULL, b SEQUENCE { a M-A } }":                                                   api.OK,
		"M-A ::= CHOICE { a M-B }\nM-B ::= CHOICE { a M-A }":                                                api.OK,
		"M-A ::= CHOICE { a M-B }\nM-B ::= CHOICE { a M-A, b NULL }":                                        api.ErrTag,
		"M-A ::= CHOICE { a M-B, b BOOLEAN }\nM-B ::= CHOICE { a M-A }":                                     api.ErrTag,
		"M-A ::= CHOICE { a M-B }\nM-B ::= CHOICE { a M-C }\nM-C ::= CHOICE { a M-A, ..., b INTEGER }":      api.ErrTag,
		"M-A ::= CHOICE { a M-B }\nauto M-B ::= CHOICE { a M-C }\nM-C ::= CHOICE { a M-A, ..., b INTEGER }": api.OK,
		"auto M-A ::= CHOICE { a M-A, b NULL }":                                                             api.OK,
		"M-A ::= CHOICE { a M-B, b NULL }\nM-B ::= M-C\nM-C ::= M-B":                                        api.OK,
		"M-A ::= SEQUENCE { a M-B OPTIONAL, b M-B OPTIONAL, c NULL }\nM-B ::= M-B":                          api.OK,
		"M-A ::= SEQUENCE { a M-B OPTIONAL, b NULL }\nM-B ::= CHOICE { a M-B, b M-C }\nM-C ::= M-D":         api.OK,
	} {
		check(t, text, want)
	}
	for _, l := range [][]api.Entry{nil, {}, {{}}, {{}, {}}, {{Auto: true}}} {
		holdCheck(t, l, api.OK)
	}
}

// P13.2: each two Kinds next to each other.
func TestCheckKinds(t *testing.T) {
	for a, tagA := range eachKind() {
		for b, tagB := range eachKind() {
			want := api.OK
			if tagA == tagB {
				want = api.ErrTag
			}
			check(t, "M-A ::= CHOICE { a "+a+", b "+b+" }", want)
			check(t, "M-A ::= SEQUENCE { a "+a+" OPTIONAL, b "+b+" }", want)
			check(t, "M-A ::= SEQUENCE { a "+a+", b "+b+" OPTIONAL }", api.OK)
		}
	}
	null := api.Part{T: typ(t, "NULL"), Opt: true}
	for _, kind := range otherKinds {
		none := api.Part{T: api.Type{Kind: kind}, Opt: true}
		for _, x := range []api.Type{{Kind: api.Choice}, {Kind: api.Seq}} {
			x.Parts = []api.Part{none, null, none, none}
			holdCheck(t, []api.Entry{{T: x}}, api.OK)
			x.Adds = []api.Part{none, null}
			holdCheck(t, []api.Entry{{T: x}}, api.ErrTag)
		}
		holdCheck(t, []api.Entry{{T: api.Type{Kind: kind, Parts: []api.Part{null, null}, Adds: []api.Part{null, null}}}}, api.OK)
	}
}

// P13.2: each sequence, and each choice, of up to five parts, the last two of
// which may have been added, of a few types.
func TestCheckEach(t *testing.T) {
	l := entries(t, "M-A ::= CHOICE { a NULL, b BOOLEAN }\nauto M-B ::= CHOICE { a NULL }")
	types := []api.Type{typ(t, "NULL"), typ(t, "M-A"), typ(t, "BOOLEAN"), typ(t, "M-B"), {}}
	value := []api.Value{{}}
	ways := []api.Part{{}, {Opt: true}, {Def: value}, {Opt: true, Def: value}, {Def: value[:0]}}
	var all []api.Part
	for _, x := range types {
		for _, p := range ways {
			p.T = x
			all = append(all, p)
		}
	}
	holdParts := func(kind int, parts ...api.Part) {
		t.Helper()
		for added := range min(3, len(parts)+1) {
			first := len(parts) - added
			all := append(l, api.Entry{Module: "M", Name: "C", T: api.Type{Kind: kind, Parts: parts[:first], Adds: parts[first:]}})
			if got, want := tags.Check(all), modelCheck(all); got != want {
				t.Fatalf("%s: %d, not %d", shown(all), got, want)
			}
		}
	}
	for _, kind := range []int{api.Seq, api.Choice, api.SeqOf, api.Int} {
		holdParts(kind)
		for _, a := range all {
			holdParts(kind, a)
			for _, b := range all {
				holdParts(kind, a, b)
				// Of the others, the ways alone.
				for _, c := range ways {
					c.T = types[0]
					holdParts(kind, a, c, b)
					for _, d := range ways[:2] {
						d.T = types[2]
						holdParts(kind, a, d, c, b)
					}
				}
			}
		}
	}
}
