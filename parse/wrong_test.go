package parse_test

import (
	"strings"
	"testing"

	"spandrel/api"
	"spandrel/parse"
	"spandrel/shape"
)

// marked is a text, and the offset that an @ marks in it.
func marked(s string) (string, int) {
	at := strings.Index(s, "@")
	return s[:at] + s[at+1:], at
}

// checkWrong holds the three results of Type against ErrText at the offset that
// is marked.
func checkWrong(t *testing.T, s string) {
	t.Helper()
	s, at := marked(s)
	modelType(t, s)
	checkError(t, parse.Type, s, at, api.ErrText)
}

// checkWrongModule is checkWrong for Module.
func checkWrongModule(t *testing.T, s string) {
	t.Helper()
	s, at := marked(s)
	modelModule(t, s)
	checkError(t, parse.Module, s, at, api.ErrText)
}

// checkError holds the three results against an error and its offset.
func checkError[T any](t *testing.T, read func([]byte) (T, int, api.Errno), s string, at int, e api.Errno) {
	t.Helper()
	var none T
	if got, gotAt, gotE := read([]byte(s)); gotE != e || gotAt != at || !equal(got, none) {
		t.Errorf("%.300q: %+v %d %d, not %d %d", s, got, gotAt, gotE, at, e)
	}
}

// P9.1: what cannot continue the text of a type, by hand.
func TestWrongTypes(t *testing.T) {
	for _, s := range []string{
		// The chapter's examples.
		"INTEGER (@)", "INTEGER (1 | 2 @^ 3)",
		// Nothing, and what starts no type.
		"@", " @", "-- BOOLEAN@", "@5", "@\"BOOLEAN\"", "@a", "@boolean", "@{ }", "@(1)", "@OF NULL", "@STRING", "@SIZE (1)", "@FROM", "@TRUE", "@END", "@MIN", "@DEFINITIONS", "@...", "@::= NULL", "@-", "@- 5",
		// What is left over.
		"BOOLEAN @BOOLEAN", "BOOLEAN @,", "NULL @(1)", "NULL @{ }", "BOOLEAN @5", "BOOLEAN @\"\"", "T @(1)", "T @T", "T @OPTIONAL", "INTEGER @DEFAULT 5", "INTEGER (1) @(2)", "INTEGER (1)@)", "INTEGER @{ a(1) }", "SEQUENCE { } @}", "SEQUENCE OF NULL @NULL", "T @DEFINITIONS ::= BEGIN END",
		"BIT STRING (SIZE (1)) @(SIZE (1))", "BIT STRING @{ }", "IA5String (SIZE (1)) @(FROM (\"a\"))", "ENUMERATED { a } @(a)", "NULL -- x -- @;", "NULL @=",
		// Integers.
		"INTEGER @5", "INTEGER @SIZE (1)", "INTEGER (@SIZE (1))", "INTEGER (@FROM (\"a\"))", "INTEGER (@...)", "INTEGER (@, ...)", "INTEGER (@a)", "INTEGER (@A)", "INTEGER (@\"5\")", "INTEGER (@..5)", "INTEGER (@MAX)", "INTEGER (@MAX..5)", "INTEGER (@- 5)", "INTEGER (@TRUE)", "INTEGER (@-)",
		"INTEGER (1@", "INTEGER (1 @2)", "INTEGER (1 @...)", "INTEGER (1 @MAX)", "INTEGER (1..@MIN)", "INTEGER (1..@)", "INTEGER (1 .. @...)", "INTEGER (1@.....)", "INTEGER (1..@(2))", "INTEGER (1..@\"2\")", "INTEGER (1..2@..3)", "INTEGER (1..@MIN..2)", "INTEGER (1@-2)", "INTEGER (1 @= 2)", "INTEGER (1 @; 2)", "INTEGER (1@]", "INTEGER (1 @]", "INTEGER @[1]",
		"INTEGER (MIN@)", "INTEGER (MIN @, ...)", "INTEGER (MIN @| 1)", "INTEGER (MIN @5)", "INTEGER (MIN..@)", "INTEGER (MIN..@MIN)", "INTEGER (MIN @... 5)", "INTEGER (MIN..MAX@..MAX)", "INTEGER (@\"MIN\"..5)",
		"INTEGER (1,@)", "INTEGER (1, @2)", "INTEGER (1, @..)", "INTEGER (1, ...@, 2)", "INTEGER (1, ... @...)", "INTEGER (1@", "INTEGER (1, ...@", "INTEGER (1@}", "INTEGER (1, @\"...\")",
		// Sides.
		"INTEGER (1 |@)", "INTEGER (1 | @| 2)", "INTEGER (@| 1)", "INTEGER (1 ^@)", "INTEGER (1 ^ @^ 2)", "INTEGER (@^ 1)", "INTEGER (1 EXCEPT@)", "INTEGER (@EXCEPT 1)", "INTEGER (1 EXCEPT @EXCEPT 2)", "INTEGER (1 | @, ...)",
		"INTEGER (1 | 2 | 3 @^ 4)", "INTEGER (1 ^ 2 @| 3)", "INTEGER (1 ^ 2 ^ 3 @| 4)", "INTEGER (1 | 2 @EXCEPT 3)", "INTEGER (1 ^ 2 @EXCEPT 3)", "INTEGER (1 EXCEPT 2 @| 3)", "INTEGER (1 EXCEPT 2 @^ 3)", "INTEGER (1 EXCEPT 2 @EXCEPT 3)", "INTEGER ((1 | 2) ^ 3 @| 4)", "INTEGER (1 | (2 ^ 3 @| 4))",
		"INTEGER (1 @UNION 2)", "INTEGER (@ALL EXCEPT 1)", "INTEGER (1 @except 2)",
		"INTEGER ((@))", "INTEGER ((1@", "INTEGER ((1)@", "INTEGER ((1) @2)", "INTEGER ((1) @(2))", "INTEGER ((1)@..2)", "INTEGER ((1@, ...))", "INTEGER ((1) | (2@, ...))", "INTEGER (1 @(2))", "INTEGER ((1))@)", "INTEGER ((1 | 2@, ...) | 3)", "INTEGER ((@) | 1)",
		// Strings and their sizes.
		"BIT@", "BIT @NULL", "BIT @\"STRING\"", "BIT @(SIZE (1))", "BITSTRING @(SIZE (1))", "OCTET@", "OCTET @OCTET STRING", "BIT STRING @STRING", "BIT STRING (@)", "BIT STRING (@1)", "BIT STRING (@(SIZE (1)))", "BIT STRING (@FROM (\"01\"))", "BIT STRING @SIZE (1)",
		"BIT STRING (SIZE@)", "BIT STRING (SIZE @1)", "BIT STRING (SIZE (@))", "BIT STRING (SIZE (1@", "BIT STRING (SIZE (1)@", "BIT STRING (SIZE (1) @, ...)", "BIT STRING (SIZE (1)@]", "BIT STRING (SIZE (1, @))", "OCTET STRING (SIZE (1)) @OF NULL", "OCTET STRING (SIZE (1) @| SIZE (2))", "BIT STRING (@\"SIZE\" (1))",
		"IA5String (@)", "IA5String (@\"a\")", "IA5String (@1)", "IA5String (FROM@)", "IA5String (FROM @\"a\")", "IA5String (FROM (@))", "IA5String (FROM (@1))", "IA5String (FROM (@a))", "IA5String (FROM (\"a\"@", "IA5String (FROM (\"a\") @(\"b\"))", "IA5String (FROM (\"a\"@..\"b\"))", "IA5String (FROM (\"a\" @| \"b\"))", "IA5String (FROM (\"a\"@, ...))", "IA5String (FROM (\"a\")@, ...)",
		"IA5String (FROM (\"a\")@", "IA5String (FROM (\"a\")) @NULL", "IA5String (FROM (\"a\")) (@", "IA5String (FROM (\"a\")) (@FROM (\"b\"))", "IA5String (FROM (\"a\")) (@1)", "IA5String (FROM (\"a\") @^ SIZE (1))", "IA5String (FROM (\"a\")) (SIZE (1)) @(SIZE (1))", "IA5String @FROM (\"a\")", "IA5String (@\"FROM\" (\"a\"))",
		// Enumerations.
		"ENUMERATED@", "ENUMERATED @a", "ENUMERATED {@", "ENUMERATED {@}", "ENUMERATED { @... }", "ENUMERATED { @..., a }", "ENUMERATED { @, a }", "ENUMERATED { @A }", "ENUMERATED { @5 }", "ENUMERATED { @\"a\" }", "ENUMERATED { @NULL }", "ENUMERATED { a@", "ENUMERATED { a @b }", "ENUMERATED { a @NULL }", "ENUMERATED { a@(1) }", "ENUMERATED { a, @}",
		"ENUMERATED { a, @B }", "ENUMERATED { a, @, b }", "ENUMERATED { a, @TRUE }", "ENUMERATED { a, ...@", "ENUMERATED { a, ... @b }", "ENUMERATED { a, ..., @}", "ENUMERATED { a, ..., @... }", "ENUMERATED { a, ..., b, @... }", "ENUMERATED { a, ..., @B }", "ENUMERATED { a, ..., b @; }", "ENUMERATED { a @... }", "ENUMERATED { a@)", "ENUMERATED { a, @.. }", "ENUMERATED @(a)", "ENUMERATED { a @OPTIONAL }",
		// Sequences and choices.
		"SEQUENCE@", "SEQUENCE @NULL", "SEQUENCE @T", "SEQUENCE {@", "SEQUENCE { @, a NULL }", "SEQUENCE { @A NULL }", "SEQUENCE { @NULL }", "SEQUENCE { @5 }", "SEQUENCE { @\"a\" NULL }", "SEQUENCE { a@", "SEQUENCE { a @}", "SEQUENCE { a @b }", "SEQUENCE { a @, b NULL }", "SEQUENCE { a @OPTIONAL }", "SEQUENCE { a @... }", "SEQUENCE { a @(1) }", "SEQUENCE { a @\"NULL\" }", "SEQUENCE { a @5 }", "SEQUENCE { a @END }",
		"SEQUENCE { a NULL@", "SEQUENCE { a NULL @b NULL }", "SEQUENCE { a NULL @; }", "SEQUENCE { a NULL,@", "SEQUENCE { a NULL, @}", "SEQUENCE { a NULL, @, b NULL }", "SEQUENCE { a NULL, @B NULL }", "SEQUENCE { a NULL @... }", "SEQUENCE { a NULL, ...@", "SEQUENCE { a NULL, ... @b NULL }", "SEQUENCE { a NULL, ..., @}", "SEQUENCE { a NULL, ..., @... }", "SEQUENCE { a NULL, ..., b NULL, @... }", "SEQUENCE { a NULL, ..., @B NULL }", "SEQUENCE { a NULL @)",
		"SEQUENCE { ...@", "SEQUENCE { ... @a NULL }", "SEQUENCE { ... @... }", "SEQUENCE { ..., @}", "SEQUENCE { ..., @... }", "SEQUENCE { ..., a NULL, @... }", "SEQUENCE { ..., a NULL, @}", "SEQUENCE { ..., a@", "SEQUENCE { @.. }",
		"SEQUENCE { a NULL OPTIONAL@", "SEQUENCE { a NULL OPTIONAL @OPTIONAL }", "SEQUENCE { a NULL OPTIONAL @DEFAULT 5 }", "SEQUENCE { a NULL DEFAULT@", "SEQUENCE { a NULL DEFAULT @}", "SEQUENCE { a NULL DEFAULT @, b NULL }", "SEQUENCE { a NULL DEFAULT @A }", "SEQUENCE { a NULL DEFAULT @NULL }", "SEQUENCE { a NULL DEFAULT @MIN }", "SEQUENCE { a NULL DEFAULT @{ } }", "SEQUENCE { a NULL DEFAULT @- 5 }", "SEQUENCE { a NULL DEFAULT @... }", "SEQUENCE { a NULL DEFAULT @(5) }", "SEQUENCE { a NULL DEFAULT @OPTIONAL }",
		"SEQUENCE { a NULL DEFAULT 5@", "SEQUENCE { a NULL DEFAULT 5 @OPTIONAL }", "SEQUENCE { a NULL DEFAULT 5 @DEFAULT 5 }", "SEQUENCE { a NULL DEFAULT 5 @6 }", "SEQUENCE { a NULL DEFAULT TRUE @FALSE }", "SEQUENCE { a NULL DEFAULT a @b }", "SEQUENCE { a NULL DEFAULT \"a\" @\"b\" }", "SEQUENCE { a NULL DEFAULT 5@..6 }", "SEQUENCE { a INTEGER (5, @b NULL }", "SEQUENCE { a NULL @\"OPTIONAL\" }",
		"SEQUENCE @OFF NULL", "SEQUENCE OF@", "SEQUENCE OF @OF NULL", "SEQUENCE OF @}", "SEQUENCE OF @a", "SEQUENCE OF @(SIZE (1)) NULL", "SEQUENCE OF @{ a NULL }", "SEQUENCE (@)", "SEQUENCE (@1) OF NULL", "SEQUENCE (@FROM (\"a\")) OF NULL", "SEQUENCE (SIZE (1))@", "SEQUENCE (SIZE (1)) @{ }", "SEQUENCE (SIZE (1)) @NULL", "SEQUENCE (SIZE (1)) @(SIZE (1)) OF NULL", "SEQUENCE @SIZE (1) OF NULL", "SEQUENCE OF SEQUENCE @NULL", "SEQUENCE @\"OF\" NULL", "SEQUENCE @\"{\" }",
		"CHOICE@", "CHOICE @a", "CHOICE @OF NULL", "CHOICE @(SIZE (1)) OF NULL", "CHOICE {@", "CHOICE { @, a NULL }", "CHOICE { a NULL, ..., @... }", "CHOICE { a NULL DEFAULT @}", "CHOICE { a NULL OPTIONAL @OPTIONAL }", "CHOICE { a@", "CHOICE { ...@", "CHOICE { @A NULL }",
		"SEQUENCE { a SEQUENCE { b NULL @b NULL }, c NULL }", "SEQUENCE { a CHOICE { b NULL }@", "SEQUENCE OF SEQUENCE { a INTEGER (1 | @) }",
	} {
		checkWrong(t, s)
	}
}

// P9.1: what cannot continue the text of a module, by hand.
func TestWrongModules(t *testing.T) {
	for _, s := range []string{
		"@", "\n\n@", "@5", "@m DEFINITIONS ::= BEGIN END", "@DEFINITIONS ::= BEGIN END", "@\"M\" DEFINITIONS ::= BEGIN END", "@BOOLEAN", "@END DEFINITIONS ::= BEGIN END", "@::= BEGIN END",
		"M@", "M @::= NULL", "M @{ 1 } DEFINITIONS ::= BEGIN END", "M @M", "M @\"DEFINITIONS\" ::= BEGIN END", "M @definitions ::= BEGIN END",
		"M DEFINITIONS@", "M DEFINITIONS @BEGIN END", "M DEFINITIONS @TAGS ::= BEGIN END", "M DEFINITIONS @EXPLICIT TAGS ::= BEGIN END", "M DEFINITIONS @= BEGIN END", "M DEFINITIONS AUTOMATIC@", "M DEFINITIONS AUTOMATIC @::= BEGIN END", "M DEFINITIONS AUTOMATIC TAGS@", "M DEFINITIONS AUTOMATIC TAGS @AUTOMATIC TAGS ::= BEGIN END", "M DEFINITIONS AUTOMATIC TAGS @BEGIN END",
		"M DEFINITIONS ::=@", "M DEFINITIONS ::= @END", "M DEFINITIONS ::= @AUTOMATIC TAGS BEGIN END", "M DEFINITIONS ::= @A ::= NULL END", "M DEFINITIONS ::= @::= BEGIN END", "M DEFINITIONS ::= BEGIN@", "M DEFINITIONS ::= BEGIN -- END@", "M DEFINITIONS ::= BEGIN @BEGIN END", "M DEFINITIONS ::= BEGIN @; END", "M DEFINITIONS ::= BEGIN @a ::= NULL END", "M DEFINITIONS ::= BEGIN @NULL ::= NULL END", "M DEFINITIONS ::= BEGIN @\"A\" ::= NULL END", "M DEFINITIONS ::= BEGIN @5 END", "M DEFINITIONS ::= BEGIN EXPORTS @;", "M DEFINITIONS ::= BEGIN @FROM N; END",
		"M DEFINITIONS ::= BEGIN IMPORTS@", "M DEFINITIONS ::= BEGIN IMPORTS @; END", "M DEFINITIONS ::= BEGIN IMPORTS @END", "M DEFINITIONS ::= BEGIN IMPORTS @a FROM N; END", "M DEFINITIONS ::= BEGIN IMPORTS @FROM N; END", "M DEFINITIONS ::= BEGIN IMPORTS @NULL FROM N; END", "M DEFINITIONS ::= BEGIN IMPORTS @, A FROM N; END", "M DEFINITIONS ::= BEGIN IMPORTS A@", "M DEFINITIONS ::= BEGIN IMPORTS A @; END", "M DEFINITIONS ::= BEGIN IMPORTS A @B FROM N; END", "M DEFINITIONS ::= BEGIN IMPORTS A, @FROM N; END", "M DEFINITIONS ::= BEGIN IMPORTS A, @, B FROM N; END", "M DEFINITIONS ::= BEGIN IMPORTS A, @b FROM N; END", "M DEFINITIONS ::= BEGIN IMPORTS A @\"FROM\" N; END", "M DEFINITIONS ::= BEGIN IMPORTS A @::= NULL END",
		"M DEFINITIONS ::= BEGIN IMPORTS A FROM@", "M DEFINITIONS ::= BEGIN IMPORTS A FROM @; END", "M DEFINITIONS ::= BEGIN IMPORTS A FROM @n; END", "M DEFINITIONS ::= BEGIN IMPORTS A FROM @END; END", "M DEFINITIONS ::= BEGIN IMPORTS A FROM @\"N\"; END", "M DEFINITIONS ::= BEGIN IMPORTS A FROM N@", "M DEFINITIONS ::= BEGIN IMPORTS A FROM N @END", "M DEFINITIONS ::= BEGIN IMPORTS A FROM N @, B FROM N; END", "M DEFINITIONS ::= BEGIN IMPORTS A FROM N B @; END", "M DEFINITIONS ::= BEGIN IMPORTS A FROM N B @::= NULL END", "M DEFINITIONS ::= BEGIN IMPORTS A FROM N;@", "M DEFINITIONS ::= BEGIN IMPORTS A FROM N; @IMPORTS B FROM N; END", "M DEFINITIONS ::= BEGIN IMPORTS A FROM N; @; END", "M DEFINITIONS ::= BEGIN A ::= NULL @IMPORTS B FROM N; END",
		"M DEFINITIONS ::= BEGIN A@", "M DEFINITIONS ::= BEGIN A @END", "M DEFINITIONS ::= BEGIN A @B ::= NULL END", "M DEFINITIONS ::= BEGIN A @= NULL END", "M DEFINITIONS ::= BEGIN A ::=@", "M DEFINITIONS ::= BEGIN A ::= @END", "M DEFINITIONS ::= BEGIN A ::= @a END", "M DEFINITIONS ::= BEGIN A ::= @5 END", "M DEFINITIONS ::= BEGIN A ::= @::= NULL END", "M DEFINITIONS ::= BEGIN A ::= B @::= NULL END", "M DEFINITIONS ::= BEGIN A ::= NULL@", "M DEFINITIONS ::= BEGIN A ::= NULL @; B ::= NULL END", "M DEFINITIONS ::= BEGIN A ::= NULL @, B ::= NULL END", "M DEFINITIONS ::= BEGIN A ::= NULL @NULL END", "M DEFINITIONS ::= BEGIN A ::= NULL @OPTIONAL END", "M DEFINITIONS ::= BEGIN A ::= INTEGER (@END", "M DEFINITIONS ::= BEGIN A ::= INTEGER (@",
		"M DEFINITIONS ::= BEGIN A ::= SEQUENCE { a NULL @END", "M DEFINITIONS ::= BEGIN A ::= SEQUENCE @END", "M DEFINITIONS ::= BEGIN A ::= ENUMERATED @B ::= NULL END", "M DEFINITIONS ::= BEGIN A ::= INTEGER (1 | 2 @END", "M DEFINITIONS ::= BEGIN A ::= BIT @END",
		"M DEFINITIONS ::= BEGIN END @END", "M DEFINITIONS ::= BEGIN END @;", "M DEFINITIONS ::= BEGIN END @M DEFINITIONS ::= BEGIN END", "M DEFINITIONS ::= BEGIN A ::= NULL END @A ::= NULL", "M DEFINITIONS ::= BEGIN END -- x -- @5",
	} {
		checkWrongModule(t, s)
	}
}

// P9.1: a text that package token refuses, wherever it does, and however wrong
// what is ahead of it is.
func TestRefused(t *testing.T) {
	for _, s := range []string{
		"@#", "BOOLEAN @#", "BOOLEAN BOOLEAN ) @'", "INTEGER (@01)", "INTEGER () @-0", "INTEGER (@9223372036854775808)", "INTEGER (@5x)", "@a-", "SEQUENCE { @a- NULL }", "IA5String (FROM (@\"a))", "IA5String (FROM (@\"a\n\"))", "NULL @.", "NULL @:", "NULL @::", "NULL @:= END", "BOOLEAN @\x00", "T @\x80", "@T-", "@é", "BOOLEAN @/* x */",
		// -2^63 is no integer.
		"INTEGER (@-9223372036854775808)", "INTEGER (@-9223372036854775808..5)", "INTEGER (0..@-9223372036854775808)", "SEQUENCE { a NULL DEFAULT @-9223372036854775808 }", "SEQUENCE OF INTEGER (1 | @-9223372036854775808)",
		strings.Repeat("SEQUENCE OF ", 50) + "@_", "INTEGER (" + strings.Repeat("(", 50) + "@_",
	} {
		checkWrong(t, s)
		checkWrongModule(t, s)
		checkWrongModule(t, "M DEFINITIONS ::= BEGIN A ::= "+s)
		checkWrongModule(t, "M DEFINITIONS ::= BEGIN END\n"+s)
	}
	checkWrong(t, "INTEGER (@- 9223372036854775807)")
	for _, n := range []int{api.MaxText - 1, api.MaxText, api.MaxText + 1, api.MaxText + 2, 2 * api.MaxText, 1 << 21} {
		for _, s := range []string{"", "BOOLEAN", "INTEGER (", ")", "M DEFINITIONS ::= BEGIN END", "#"} {
			s += strings.Repeat(" ", n-len(s))
			if n > api.MaxText {
				checkError(t, parse.Type, s, 0, api.ErrLarge)
				checkError(t, parse.Module, s, 0, api.ErrLarge)
			}
			modelType(t, s)
			modelModule(t, s)
		}
	}
	space := strings.Repeat(" ", api.MaxText-len("BOOLEAN"))
	checkRead(t, space+"BOOLEAN", flag)
	checkRead(t, "BOOLEAN"+space, flag)
}

// P9.1: what is read but not well-formed.
func TestNotWellFormed(t *testing.T) {
	for _, s := range []string{
		`IA5String (FROM ("ba"))`, `IA5String (FROM ("aa"))`, `IA5String (FROM ("aba")) (SIZE (1))`, `IA5String (FROM ("abdc"))`, `IA5String (FROM ("~ "))`, `IA5String (FROM (""""""))`, `IA5String (FROM ("a""b"))`, `IA5String (FROM ("--"))`,
		"CHOICE { }", "CHOICE { ... }", "CHOICE { ..., a NULL }", "CHOICE { ..., a NULL, b NULL }",
		"CHOICE { a NULL OPTIONAL }", "CHOICE { a NULL DEFAULT 5 }", "CHOICE { a NULL DEFAULT FALSE }", `CHOICE { a T DEFAULT "" }`, "CHOICE { a T DEFAULT a }", "CHOICE { a NULL, b NULL OPTIONAL, c NULL }", "CHOICE { a NULL, b NULL DEFAULT TRUE }", "CHOICE { a NULL, ..., b NULL OPTIONAL }", "CHOICE { a NULL, ..., b NULL, c NULL DEFAULT a }", "CHOICE { a CHOICE { a NULL OPTIONAL } }", "CHOICE { a SEQUENCE { a NULL OPTIONAL } OPTIONAL }",
		"ENUMERATED { " + words(257, "a", ", ") + " }", "ENUMERATED { a, ..., " + words(257, "a", ", ") + " }", "SEQUENCE { " + words(257, "a", " NULL, ") + " NULL }", "CHOICE { a NULL, ..., " + words(257, "a", " NULL, ") + " NULL }",
	} {
		for _, behind := range []string{"", " ", "\n-- x"} {
			checkWrong(t, s+behind+"@")
			checkWrong(t, "SEQUENCE OF "+s+behind+"@")
			checkWrong(t, "SEQUENCE { a NULL, b "+s+" OPTIONAL }"+behind+"@")
			checkWrong(t, "SEQUENCE { ..., b "+s+", c NULL }"+behind+"@")
			checkWrong(t, "CHOICE { a "+s+", ..., b NULL }"+behind+"@")
			checkWrongModule(t, "M DEFINITIONS ::= BEGIN A ::= "+s+" END"+behind+"@")
			checkWrongModule(t, "M DEFINITIONS AUTOMATIC TAGS ::= BEGIN A ::= NULL B ::= "+s+" C ::= NULL END"+behind+"@")
		}
		// What cannot be read behind it is told first.
		checkWrong(t, s+"@)")
		checkWrong(t, "SEQUENCE { a "+s+", @}")
		checkWrongModule(t, "M DEFINITIONS ::= BEGIN A ::= "+s+" B ::= @END")
		checkWrongModule(t, "M DEFINITIONS ::= BEGIN A ::= "+s+"@")
	}
}

// modules are texts with each form of the grammar of modules, in which there is
// white space between all tokens, and none in them.
func modules() []string {
	l := []string{
		"M DEFINITIONS ::= BEGIN END", "M DEFINITIONS AUTOMATIC TAGS ::= BEGIN A ::= NULL END", "M DEFINITIONS ::= BEGIN IMPORTS A FROM N ; END",
		"M DEFINITIONS AUTOMATIC TAGS ::= BEGIN IMPORTS A , B , C FROM N D FROM O E , F FROM P ; A ::= B B ::= BOOLEAN C ::= SEQUENCE OF D END",
	}
	for _, s := range samples() {
		l = append(l, "M DEFINITIONS ::= BEGIN A ::= "+s+" B ::= "+s+" END")
	}
	return l
}

// vocabulary is each word of the grammar, each sign, names, integers and quoted
// strings, among them those that say what a word or a sign does.
func vocabulary() []string {
	l := strings.Fields("::= ... .. { } ( ) [ ] , ; | ^ = - 0 5 -5 9223372036854775807 a b-1 of true A B-1 Of EXPORTS SET UNION")
	l = append(l, `""`, `"a"`, `"ba"`, `"{"`, `"5"`, `"NULL"`, `"..."`, `"A"`)
	return append(l, strings.Fields(keywords)...)
}

const keywords = "BOOLEAN INTEGER ENUMERATED NULL BIT STRING OCTET IA5String SEQUENCE OF CHOICE SIZE FROM OPTIONAL DEFAULT TRUE FALSE MIN MAX EXCEPT DEFINITIONS AUTOMATIC TAGS BEGIN END IMPORTS"

// P9.1: a text that ends too early, at each place.
func TestEnds(t *testing.T) {
	for _, s := range samples() {
		ends(t, s, modelType, parse.Type)
	}
	for _, s := range modules() {
		ends(t, s, modelModule, parse.Module)
	}
}

// ends cuts a text behind each of its tokens, and at each byte.
func ends[T any](t *testing.T, s string, model func(*testing.T, string) api.Errno, read func([]byte) (T, int, api.Errno)) {
	t.Helper()
	l := strings.Fields(s)
	wrong := 0
	for k := range l {
		for _, behind := range []string{"", " ", " -- x"} {
			cut := strings.Join(l[:k], " ") + behind
			// All of it can be continued: it is whole, or ends too early.
			if model(t, cut) != api.OK {
				checkError(t, read, cut, len(cut), api.ErrText)
				wrong++
			}
		}
	}
	if wrong == 0 {
		t.Errorf("%q", s)
	}
	for k := range s {
		model(t, s[:k])
		model(t, s[k:])
	}
}

// P9.1: at each place each word, sign, name, integer and quoted string, ahead of
// what stands there, in place of it, and at the end of the text; and without
// what stands there.
func TestEachPlace(t *testing.T) {
	for _, s := range samples() {
		eachPlace(t, s, modelType)
	}
	for _, s := range modules() {
		eachPlace(t, s, modelModule)
	}
}

func eachPlace(t *testing.T, s string, model func(*testing.T, string) api.Errno) {
	t.Helper()
	l := strings.Fields(s)
	for k := range len(l) + 1 {
		ahead, behind := strings.Join(l[:k], " "), strings.Join(l[min(k+1, len(l)):], " ")
		model(t, ahead+" "+behind)
		for _, word := range vocabulary() {
			model(t, ahead+" "+word)
			model(t, ahead+" "+word+" "+behind)
			model(t, ahead+"\n"+word+" "+strings.Join(l[k:], " "))
		}
	}
}

// P9.1: a keyword where a name must stand, and a name that begins with the wrong
// letter.
func TestNames(t *testing.T) {
	for _, s := range append(strings.Fields(keywords), "a", "b-C", "iA5String", "oF", "A", "B-c", "Of", "SET", `"A"`, `"a"`, "5") {
		upper := s[0] >= 'A' && s[0] <= 'Z' && !shape.Keyword(s)
		lower := s[0] >= 'a' && s[0] <= 'z'
		for _, x := range []struct {
			is    bool
			texts []string
		}{
			{upper, []string{
				"@ DEFINITIONS ::= BEGIN END", "M DEFINITIONS ::= BEGIN IMPORTS @ FROM N; END", "M DEFINITIONS ::= BEGIN IMPORTS A, @, B FROM N; END", "M DEFINITIONS ::= BEGIN IMPORTS A FROM @; END",
				"M DEFINITIONS ::= BEGIN IMPORTS A FROM N B FROM @ C FROM N; END", "M DEFINITIONS AUTOMATIC TAGS ::= BEGIN IMPORTS A FROM N @ FROM O; END",
			}},
			{upper || s == "END" || s == "IMPORTS", []string{"M DEFINITIONS ::= BEGIN @ ::= NULL END"}},
			{upper || s == "END", []string{"M DEFINITIONS ::= BEGIN A ::= NULL @ ::= NULL END"}},
			{lower, []string{
				"M DEFINITIONS ::= BEGIN A ::= ENUMERATED { @ } END", "M DEFINITIONS ::= BEGIN A ::= ENUMERATED { a, @, b } END", "M DEFINITIONS ::= BEGIN A ::= ENUMERATED { a, ..., @ } END",
				"M DEFINITIONS ::= BEGIN A ::= SEQUENCE { a NULL, @ NULL } END", "M DEFINITIONS ::= BEGIN A ::= SEQUENCE { ..., @ NULL } END", "M DEFINITIONS ::= BEGIN A ::= CHOICE { @ NULL } END",
			}},
		} {
			for _, text := range x.texts {
				if x.is {
					if e := modelModule(t, strings.ReplaceAll(text, "@", s)); e != api.OK && !shape.Keyword(s) {
						t.Errorf("%q in %q: %d", s, text, e)
					}
					continue
				}
				checkWrongModule(t, strings.ReplaceAll(text, "@", "@"+s))
			}
		}
	}
}
