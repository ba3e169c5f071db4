package shape

import (
	"spandrel/api"
	"spandrel/token"
)

// Keyword tells whether s is a keyword.
func Keyword(s string) bool {
	switch s {
	case "BOOLEAN", "INTEGER", "ENUMERATED", "NULL", "BIT", "STRING", "OCTET", "IA5String", "SEQUENCE", "OF", "CHOICE",
		"SIZE", "FROM", "OPTIONAL", "DEFAULT", "TRUE", "FALSE", "MIN", "MAX", "EXCEPT",
		"DEFINITIONS", "AUTOMATIC", "TAGS", "BEGIN", "END", "IMPORTS":
		return true
	}
	return false
}

// isReference tells whether s may name a type or a module.
func isReference(s string) bool {
	return token.Upper(s) && !Keyword(s)
}

// isImport tells whether an import is well-formed.
func isImport(i api.Import) bool {
	return isReference(i.From) && len(i.Names) > 0 && few(i.Names, isReference)
}

// isDefinition tells whether a definition is well-formed.
func isDefinition(d api.Def) bool {
	return isReference(d.Name) && Type(d.T)
}

// few tells whether a list is not too long, and each of its elements is as is
// tells.
func few[E any](l []E, is func(E) bool) bool {
	return len(l) <= api.MaxNames && every(l, is)
}

// every tells whether each element of a list is as is tells.
func every[E any](l []E, is func(E) bool) bool {
	for _, e := range l {
		if !is(e) {
			return false
		}
	}
	return true
}
