package scope_test

import (
	"slices"
	"strings"
	"testing"

	"spandrel/api"
)

// clashes are types in which two names are the same.
var clashes = []string{
	"ENUMERATED { a, a }", "ENUMERATED { a, b, c, b }", "ENUMERATED { b, c, b }", "ENUMERATED { a, ..., a }", "ENUMERATED { a, b, ..., c, b }", "ENUMERATED { a, ..., b, c, b }", "ENUMERATED { a, ..., b, b }",
	"SEQUENCE { a NULL, a NULL }", "SEQUENCE { a NULL, b BOOLEAN, a INTEGER OPTIONAL }", "SEQUENCE { a NULL, ..., a BOOLEAN }", "SEQUENCE { a NULL, b NULL, ..., c NULL, b B }", "SEQUENCE { ..., a NULL, b NULL, a NULL }", "SEQUENCE { ..., a NULL, a NULL }",
	"CHOICE { a NULL, a BOOLEAN }", "CHOICE { a NULL, b B, c NULL, b NULL }", "CHOICE { a NULL, ..., a BOOLEAN }", "CHOICE { a NULL, b NULL, ..., c NULL, b NULL }", "CHOICE { a NULL, ..., b NULL, c NULL, b NULL }", "CHOICE { a NULL, ..., b NULL, b NULL }",
}

// P10.1: names that are not as they must be.
func TestErrName(t *testing.T) {
	for _, s := range []string{
		// Two modules of one name.
		"M:\nM:", "M:\nN:\nM:", "M:\nM auto:", "M: A ::= NULL\nM: B ::= NULL", "M: A ::= NULL\nM: A ::= NULL", "N: A ::= NULL\nM:\nO:\nM: B ::= NULL", "M: A ::= NULL\nN: IMPORTS A FROM M;\nM: B ::= NULL",
		// Two types of one name.
		"M: A ::= NULL A ::= NULL", "M: A ::= NULL A ::= BOOLEAN", "M: A ::= NULL B ::= NULL C ::= A A ::= INTEGER", "M: B ::= NULL A ::= NULL A ::= NULL", "N: A ::= NULL\nM: A ::= NULL A ::= NULL\nO: A ::= NULL",
		// A name imported twice.
		"M: IMPORTS A, A FROM N;\nN: A ::= NULL", "M: IMPORTS A, B, A FROM N;\nN: A ::= NULL B ::= NULL", "M: IMPORTS A FROM N A FROM N;\nN: A ::= NULL", "M: IMPORTS A FROM N B FROM O A FROM N; C ::= A\nN: A ::= NULL\nO: B ::= NULL",
		"M: IMPORTS A FROM N A FROM O;\nN: A ::= NULL\nO: A ::= NULL", "M: IMPORTS A, B FROM N C, A FROM O;\nN: A ::= NULL B ::= NULL\nO: A ::= NULL C ::= NULL", "M: IMPORTS A FROM N A FROM O; B ::= A\nN: A ::= NULL\nO: A ::= NULL",
		// A name imported and defined.
		"M: IMPORTS A FROM N; A ::= NULL\nN: A ::= NULL", "M: IMPORTS A, B FROM N; C ::= NULL B ::= A\nN: A ::= NULL B ::= NULL", "M: IMPORTS A FROM N B FROM O; B ::= NULL\nN: A ::= NULL\nO: B ::= NULL", "M: IMPORTS A FROM N; A ::= A\nN: A ::= NULL",
		// A name imported from a module that is not there, or that does not define it itself.
		"M: IMPORTS A FROM N;", "M: IMPORTS A FROM N; B ::= NULL", "M: IMPORTS A FROM N; B ::= A", "M: IMPORTS A FROM Nn;\nN: A ::= NULL", "M: IMPORTS A FROM N B FROM O;\nN: A ::= NULL", "M: IMPORTS A FROM N;\nO: A ::= NULL",
		"M: IMPORTS A FROM N;\nN:", "M: IMPORTS A FROM N;\nN: B ::= NULL", "M: IMPORTS A, B FROM N;\nN: A ::= NULL", "M: IMPORTS A, B, C FROM N;\nN: A ::= NULL C ::= NULL", "M: IMPORTS A FROM N B FROM O;\nN: A ::= NULL B ::= NULL\nO: A ::= NULL", "M: IMPORTS A FROM N B FROM N;\nN: A ::= NULL\nO: B ::= NULL",
		"M: IMPORTS A FROM N; B ::= A\nN: IMPORTS A FROM O;\nO: A ::= NULL", "M: IMPORTS A FROM N;\nN: IMPORTS A FROM O;\nO: A ::= NULL", "M: IMPORTS A FROM N;\nN: IMPORTS A FROM M;", "M: IMPORTS N FROM N;\nN: A ::= NULL",
		// A module that imports from itself.
		"M: IMPORTS A FROM M; A ::= NULL", "M: IMPORTS A FROM M; B ::= NULL", "M: IMPORTS A FROM M;", "M: IMPORTS B FROM M; A ::= B\nN: B ::= NULL",
		// A Ref that denotes no type, though others do, and other modules have one.
		"M: A ::= B", "M: A ::= NULL B ::= C", "M: A ::= C B ::= NULL", "M: A ::= M", "M: A ::= B\nN: B ::= NULL", "N: B ::= NULL\nM: A ::= B", "M: B ::= NULL\nN: A ::= B", "M: A ::= SEQUENCE { b B OPTIONAL }\nN: B ::= NULL",
		"M: IMPORTS C FROM N; A ::= B\nN: B ::= NULL C ::= B", "M: IMPORTS B FROM N; A ::= B\nN: B ::= NULL\nO: A ::= B", "O: A ::= B\nM: IMPORTS B FROM N; A ::= B\nN: B ::= NULL", "M: IMPORTS B FROM N; A ::= N\nN: B ::= NULL",
		"M: A ::= SEQUENCE OF B", "M: A ::= SEQUENCE { a NULL, b B }", "M: A ::= SEQUENCE { ..., b B }", "M: A ::= SEQUENCE { a NULL, ..., b NULL, c B }", "M: A ::= CHOICE { a NULL, b B }", "M: A ::= CHOICE { a NULL, ..., b B }", "M: A ::= SEQUENCE { b B DEFAULT 5 }",
		// Names are told apart by each letter.
		"M: A ::= BB B ::= NULL", "M: A ::= B BB ::= NULL", "M: A ::= Bb BB ::= NULL", "M: A ::= B-1 B-2 ::= NULL",
	} {
		checkWrong(t, s, api.ErrName)
	}
	for _, s := range clashes {
		for _, text := range []string{"M: B ::= NULL A ::= @", "M: A ::= NULL B ::= NULL C ::= @ D ::= NULL", "M: IMPORTS B FROM N; A ::= @\nN: B ::= BOOLEAN", "M: B ::= BOOLEAN A ::= SEQUENCE { a NULL, b @, c NULL }", "M: B ::= BOOLEAN A ::= CHOICE { a SEQUENCE OF @, b SEQUENCE { a NULL } }"} {
			checkWrong(t, strings.ReplaceAll(text, "@", s), api.ErrName)
		}
	}
}

// notWell are modules that are not well-formed.
func notWell(t *testing.T) []api.Module {
	t.Helper()
	var l []api.Module
	null := api.Type{Kind: api.Null}
	names := strings.Fields(strings.Repeat("A ", api.MaxNames+1))
	for _, spoil := range []func(*api.Module){
		func(m *api.Module) { m.Name = "" },
		func(m *api.Module) { m.Name = "m" },
		func(m *api.Module) { m.Name = "END" },
		func(m *api.Module) { m.Name = "M.N" },
		func(m *api.Module) { m.Imports[0].From = "n" },
		func(m *api.Module) { m.Imports[0].Names = nil },
		func(m *api.Module) { m.Imports[0].Names = []string{"B", ""} },
		func(m *api.Module) { m.Imports[0].Names = names },
		func(m *api.Module) { m.Imports = slices.Repeat(m.Imports, api.MaxNames+1) },
		func(m *api.Module) { m.Defs = slices.Repeat(m.Defs, api.MaxNames+1) },
		func(m *api.Module) { m.Defs[0].Name = "a" },
		func(m *api.Module) { m.Defs[0].Name = "M.A" },
		func(m *api.Module) { m.Defs[0].T = api.Type{} },
		func(m *api.Module) { m.Defs[0].T = api.Type{Kind: 12} },
		func(m *api.Module) { m.Defs[0].T = api.Type{Kind: -1} },
		func(m *api.Module) { m.Defs[0].T = api.Type{Kind: api.Null, Ext: true} },
		func(m *api.Module) { m.Defs[0].T = ref("") },
		func(m *api.Module) { m.Defs[0].T = ref("N.B") },
		func(m *api.Module) {
			m.Defs[0].T = api.Type{Kind: api.Ref, Name: "A", Parts: []api.Part{{Name: "a", T: null}}}
		},
		func(m *api.Module) { m.Defs[0].T = api.Type{Kind: api.SeqOf} },
		func(m *api.Module) { m.Defs[0].T = api.Type{Kind: api.SeqOf, Elem: []api.Type{null, null}} },
		func(m *api.Module) { m.Defs[0].T = api.Type{Kind: api.Choice} },
		func(m *api.Module) {
			m.Defs[0].T = api.Type{Kind: api.Seq, Parts: []api.Part{{Name: "a", T: api.Type{}}}}
		},
		func(m *api.Module) { m.Defs[0].T = typ(t, nested("NULL", 2, 39)); m.Defs[0].T.Parts[0].Name = "A" },
		func(m *api.Module) {
			m.Defs[0].T = api.Type{Kind: api.Seq, Parts: []api.Part{{Name: "a", T: typ(t, nested("NULL", 0, 39))}}}
		},
	} {
		m := modules(t, "M: IMPORTS B FROM N; A ::= NULL")[0]
		spoil(&m)
		l = append(l, m)
	}
	return l
}

// P10.1: a module that is not well-formed, among others.
func TestErrArg(t *testing.T) {
	n := modules(t, "N: B ::= NULL")
	hold(t, append(modules(t, "M: IMPORTS B FROM N; A ::= NULL"), n...), entries(t, "M.A ::= NULL\nN.B ::= NULL"), api.OK)
	for _, m := range notWell(t) {
		hold(t, []api.Module{m}, nil, api.ErrArg)
		hold(t, append(slices.Clone(n), m), nil, api.ErrArg)
		hold(t, []api.Module{m, n[0]}, nil, api.ErrArg)
		hold(t, []api.Module{n[0], m, m, n[0]}, nil, api.ErrArg)
	}
}

// P10.1: of several errors, which one is told, wherever they are.
func TestFirstError(t *testing.T) {
	names := []string{
		"M:\nM:", "M: A ::= NULL A ::= NULL", "M: IMPORTS A, A FROM N;\nN: A ::= NULL", "M: IMPORTS A FROM N; A ::= NULL\nN: A ::= NULL", "M: IMPORTS A FROM X;", "M: IMPORTS A FROM N;\nN:", "M: A ::= B", "M: A ::= ENUMERATED { a, ..., a }", "M: A ::= SEQUENCE { a NULL, ..., a NULL }",
	}
	deep := []string{"D: A ::= A", "D: B ::= NULL A ::= SEQUENCE { a A, b B }", "D: A ::= B B ::= CHOICE { a A }", "D: IMPORTS B FROM E; A ::= B\nE: IMPORTS A FROM D; B ::= A"}
	for _, s := range deep {
		checkWrong(t, s, api.ErrDeep)
		for _, name := range names {
			checkWrong(t, name, api.ErrName)
			checkWrong(t, name+"\n"+s, api.ErrName)
			checkWrong(t, s+"\n"+name, api.ErrName)
		}
		for _, m := range notWell(t) {
			for _, text := range append(names, deep...) {
				l := append(modules(t, text+"\nP: A ::= NULL"), m)
				for _, order := range orders(l) {
					hold(t, order, nil, api.ErrArg)
				}
			}
		}
	}
	// Within one module.
	for _, s := range []string{
		"M: A ::= A B ::= C", "M: A ::= B B ::= A C ::= ENUMERATED { a, a }", "M: A ::= SEQUENCE { a A, a NULL }", "M: A ::= SEQUENCE { a A, b B }", "M: IMPORTS A, A FROM N; B ::= B\nN: A ::= NULL", "M: IMPORTS X FROM N; A ::= A", "M: A ::= A A ::= NULL", "M: A ::= NULL A ::= A",
	} {
		checkWrong(t, s, api.ErrName)
	}
}
