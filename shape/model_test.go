package shape_test

import (
	"fmt"
	"math"
	"reflect"
	"regexp"
	"slices"
	"strings"
	"testing"

	"spandrel/api"
	"spandrel/shape"
	"spandrel/token"
)

// This file says by names of fields and regular expressions what the chapter
// says, so that it has nothing in common with the package that it tests.

const keywords = "BOOLEAN INTEGER ENUMERATED NULL BIT STRING OCTET IA5String SEQUENCE OF CHOICE SIZE FROM OPTIONAL DEFAULT TRUE FALSE MIN MAX EXCEPT DEFINITIONS AUTOMATIC TAGS BEGIN END IMPORTS"

var (
	upperWord  = regexp.MustCompile(`^[A-Z](?:-?[A-Za-z0-9])*$`)
	lowerWord  = regexp.MustCompile(`^[a-z](?:-?[A-Za-z0-9])*$`)
	characters = regexp.MustCompile(`^[ -~]*$`)
)

// set is the names of the fields that are set, in order.
func set(x any) []string {
	var names []string
	v := reflect.ValueOf(x)
	for k := range v.NumField() {
		f := v.Field(k)
		isSet := !f.IsZero()
		switch {
		case f.Kind() == reflect.Slice:
			isSet = f.Len() > 0
		case f.Kind() == reflect.Struct:
			isSet = len(set(f.Interface())) > 0
		}
		if isSet {
			names = append(names, v.Type().Field(k).Name)
		}
	}
	return names
}

// has tells whether all fields that must be set in x are, and no others but
// those that may be.
func has(x any, must, may string) bool {
	is := set(x)
	for _, name := range strings.Fields(must) {
		if !slices.Contains(is, name) {
			return false
		}
	}
	for _, name := range is {
		if !slices.Contains(strings.Fields(must+" "+may), name) {
			return false
		}
	}
	return true
}

// wellCon is what Con must answer.
func wellCon(c api.Con) bool {
	return wellConAt(c, 1)
}

// wellConAt is wellCon for a constraint at a depth.
func wellConAt(c api.Con, at int) bool {
	if at > 40 {
		return false
	}
	for _, e := range c.L {
		if e.Op == 0 || !wellConAt(e, at+1) {
			return false
		}
	}
	switch c.Op {
	case 0:
		return has(c, "", "")
	case 1:
		return has(c, "Op", "Lo Hi Low High") && !(c.Low && c.Lo != 0) && !(c.High && c.Hi != 0) && c.Lo > math.MinInt64 && c.Hi > math.MinInt64
	case 2, 3:
		return has(c, "Op L", "") && len(c.L) > 1
	case 4:
		return has(c, "Op L", "") && len(c.L) == 2
	}
	return false
}

// wellName tells whether s is valid as the Name of a Ref.
func wellName(s string) bool {
	return upperWord.MatchString(s) && !strings.Contains(" "+keywords+" ", " "+s+" ")
}

// wellFields tells whether a type has the fields of its Kind.
func wellFields(t api.Type) bool {
	switch t.Kind {
	case 1, 4:
		return has(t, "Kind", "")
	case 2, 5, 6:
		return has(t, "Kind", "Con Ext") && !(t.Ext && t.Con.Op == 0)
	case 7:
		return has(t, "Kind", "Con Ext From") && !(t.Ext && t.Con.Op == 0)
	case 3:
		return has(t, "Kind Names", "Ext More") && (t.Ext || len(t.More) == 0)
	case 8:
		return has(t, "Kind", "Parts Ext Adds") && (t.Ext || len(t.Adds) == 0)
	case 10:
		return has(t, "Kind Parts", "Ext Adds") && (t.Ext || len(t.Adds) == 0)
	case 9:
		return has(t, "Kind Elem", "Con Ext") && !(t.Ext && t.Con.Op == 0) && len(t.Elem) == 1
	case 11:
		return has(t, "Kind Name", "") && wellName(t.Name)
	}
	return false
}

// wellType is what Type must answer.
func wellType(t api.Type) bool {
	if !wellFields(t) || !wellCon(t.Con) || !characters.MatchString(t.From) || deep(t) > 40 {
		return false
	}
	for k := 1; k < len(t.From); k++ {
		if t.From[k] <= t.From[k-1] {
			return false
		}
	}
	for _, names := range [][]string{t.Names, t.More} {
		for _, name := range names {
			if !lowerWord.MatchString(name) || len(names) > 256 {
				return false
			}
		}
	}
	for _, parts := range [][]api.Part{t.Parts, t.Adds} {
		for _, p := range parts {
			if !wellPart(p, t.Kind == 10) || len(parts) > 256 {
				return false
			}
		}
	}
	for _, x := range t.Elem {
		if !wellType(x) {
			return false
		}
	}
	return true
}

// wellPart tells whether a part is well-formed.
func wellPart(p api.Part, ofChoice bool) bool {
	if !lowerWord.MatchString(p.Name) || !wellType(p.T) {
		return false
	}
	switch {
	case len(p.Def) == 0:
		return !(p.Opt && ofChoice)
	case len(p.Def) > 1, p.Opt, ofChoice:
		return false
	}
	v := p.Def[0]
	switch v.Kind {
	case 1:
		return has(v, "Kind", "N") && (v.N == 0 || v.N == 1)
	case 2:
		return has(v, "Kind", "N") && v.N > math.MinInt64
	case 3:
		return has(v, "Kind S", "") && lowerWord.MatchString(v.S)
	case 7:
		return has(v, "Kind", "S") && characters.MatchString(v.S)
	}
	return false
}

// wellModule is what Module must answer.
func wellModule(m api.Module) bool {
	if !wellName(m.Name) || len(m.Imports) > 256 || len(m.Defs) > 256 {
		return false
	}
	for _, i := range m.Imports {
		if !wellName(i.From) || len(i.Names) == 0 || len(i.Names) > 256 || slices.ContainsFunc(i.Names, func(s string) bool { return !wellName(s) }) {
			return false
		}
	}
	return !slices.ContainsFunc(m.Defs, func(d api.Def) bool { return !wellName(d.Name) || !wellType(d.T) })
}

// deep is how deep a type is.
func deep(t api.Type) int {
	inner := slices.Clone(t.Elem)
	for _, p := range slices.Concat(t.Parts, t.Adds) {
		inner = append(inner, p.T)
	}
	most := 0
	for _, x := range inner {
		most = max(most, deep(x))
	}
	return 1 + most
}

// textOfCon is what ConText must answer if the constraint is well-formed.
func textOfCon(c api.Con) string {
	if c.Op == 1 {
		text := fmt.Sprintf("%d..%d", c.Lo, c.Hi)
		switch {
		case c.Low && c.High:
			text = "MIN..MAX"
		case c.Low:
			text = fmt.Sprintf("MIN..%d", c.Hi)
		case c.High:
			text = fmt.Sprintf("%d..MAX", c.Lo)
		case c.Lo == c.Hi:
			text = fmt.Sprint(c.Lo)
		}
		return text
	}
	var sides []string
	for _, e := range c.L {
		if side := textOfCon(e); e.Op == 1 {
			sides = append(sides, side)
		} else {
			sides = append(sides, "("+side+")")
		}
	}
	return strings.Join(sides, []string{2: " | ", 3: " ^ ", 4: " EXCEPT "}[max(c.Op, 2)])
}

// textOfType is what TypeText must answer if the type is well-formed.
func textOfType(t api.Type) string {
	within := textOfCon(t.Con)
	if t.Ext {
		within += ", ..."
	}
	size, bounds := "", ""
	if t.Con.Op != 0 {
		size, bounds = " (SIZE ("+within+"))", " ("+within+")"
	}
	switch t.Kind {
	case 2:
		return "INTEGER" + bounds
	case 3:
		return "ENUMERATED" + inBraces(t.Names, t.Ext, t.More)
	case 5:
		return "BIT STRING" + size
	case 6:
		return "OCTET STRING" + size
	case 7:
		if t.From != "" {
			size = fmt.Sprintf(` (FROM ("%s"))%s`, strings.Join(strings.Split(t.From, `"`), `""`), size)
		}
		return "IA5String" + size
	case 8, 10:
		return map[int]string{8: "SEQUENCE", 10: "CHOICE"}[t.Kind] + inBraces(textsOfParts(t.Parts), t.Ext, textsOfParts(t.Adds))
	case 9:
		return "SEQUENCE" + size + " OF " + textOfType(t.Elem[0])
	}
	return map[int]string{1: "BOOLEAN", 4: "NULL", 11: t.Name}[t.Kind]
}

// inBraces is a list in braces, with a space ahead of it.
func inBraces(first []string, ext bool, more []string) string {
	if ext {
		first = append(slices.Clone(first), "...")
	}
	return strings.ReplaceAll(" { "+strings.Join(append(slices.Clone(first), more...), ", ")+" }", "{  }", "{ }")
}

// textsOfParts is each part's text.
func textsOfParts(parts []api.Part) []string {
	var texts []string
	for _, p := range parts {
		text := p.Name + " " + textOfType(p.T)
		if p.Opt {
			text += " OPTIONAL"
		}
		if len(p.Def) > 0 {
			v := p.Def[0]
			text += " DEFAULT " + map[int]string{
				1: strings.ToUpper(fmt.Sprint(v.N == 1)), 2: fmt.Sprint(v.N), 3: v.S,
				7: `"` + strings.Join(strings.Split(v.S, `"`), `""`) + `"`,
			}[v.Kind]
		}
		texts = append(texts, text)
	}
	return texts
}

// textOfModule is what ModuleText must answer if the module is well-formed.
func textOfModule(m api.Module) string {
	text := m.Name + " DEFINITIONS ::= BEGIN\n"
	if m.Auto {
		text = m.Name + " DEFINITIONS AUTOMATIC TAGS ::= BEGIN\n"
	}
	var imports []string
	for _, i := range m.Imports {
		imports = append(imports, strings.Join(i.Names, ", ")+" FROM "+i.From)
	}
	if len(imports) > 0 {
		text += "IMPORTS " + strings.Join(imports, " ") + ";\n"
	}
	for _, d := range m.Defs {
		text += fmt.Sprintf("%s ::= %s\n", d.Name, textOfType(d.T))
	}
	return text + "END\n"
}

// modelCon holds Con and ConText against the model.
func modelCon(t *testing.T, c api.Con) {
	t.Helper()
	well, text := wellCon(c), ""
	if well && c.Op != 0 {
		text = textOfCon(c)
	}
	if got, gotText := shape.Con(c), shape.ConText(c); got != well || gotText != text {
		t.Fatalf("%.500s: %v %.500q, not %v %.500q", fmt.Sprintf("%+v", c), got, gotText, well, text)
	}
}

// modelType holds Type, TypeText and Depth against the model, and tells whether
// the type is well-formed.
func modelType(t *testing.T, x api.Type) bool {
	t.Helper()
	well, text, depth := wellType(x), "", min(deep(x), 41)
	if well {
		text = textOfType(x)
	}
	if got, gotText := shape.Type(x), shape.TypeText(x); got != well || gotText != text {
		t.Fatalf("%.500s: %v %.500q, not %v %.500q", fmt.Sprintf("%+v", x), got, gotText, well, text)
	}
	if got := shape.Depth(x); got != depth {
		t.Fatalf("%.500s: depth %d, not %d", fmt.Sprintf("%+v", x), got, depth)
	}
	if _, _, e := token.Scan([]byte(text)); e != api.OK && len(text) <= api.MaxText {
		t.Fatalf("%.500q: %v", text, e)
	}
	return well
}

// modelModule holds Module and ModuleText against the model.
func modelModule(t *testing.T, m api.Module) {
	t.Helper()
	well, text := wellModule(m), ""
	if well {
		text = textOfModule(m)
	}
	if got, gotText := shape.Module(m), shape.ModuleText(m); got != well || gotText != text {
		t.Fatalf("%.500s: %v %.500q, not %v %.500q", fmt.Sprintf("%+v", m), got, gotText, well, text)
	}
}

// clone is a copy of a value that shares no list with it. Lists without
// elements are nil in it.
func clone[T any](x T) T {
	v := reflect.New(reflect.TypeOf(x)).Elem()
	v.Set(reflect.ValueOf(x))
	part(v)
	return v.Interface().(T)
}

// part gives a value lists of its own.
func part(v reflect.Value) {
	switch v.Kind() {
	case reflect.Struct:
		for k := range v.NumField() {
			part(v.Field(k))
		}
	case reflect.Slice:
		own := reflect.Zero(v.Type())
		for k := range v.Len() {
			own = reflect.Append(own, v.Index(k))
		}
		v.Set(own)
		for k := range v.Len() {
			part(v.Index(k))
		}
	}
}

// equal tells whether two values differ in nothing, or in whether lists without
// elements are nil.
func equal[T any](a, b T) bool {
	return reflect.DeepEqual(clone(a), clone(b))
}

// vary alters one thing in a value after the other, at any depth, and calls try
// for each.
func vary[T any](x T, try func(T)) {
	v := reflect.New(reflect.TypeOf(x)).Elem()
	v.Set(reflect.ValueOf(clone(x)))
	varyAt(v, func() { try(v.Interface().(T)) })
}

// varyAt is vary for what stands in a value.
func varyAt(v reflect.Value, try func()) {
	before := reflect.New(v.Type()).Elem()
	before.Set(v)
	for _, other := range others(v) {
		v.Set(other)
		try()
	}
	v.Set(before)
	switch v.Kind() {
	case reflect.Struct:
		for k := range v.NumField() {
			varyAt(v.Field(k), try)
		}
	case reflect.Slice:
		for k := range v.Len() {
			varyAt(v.Index(k), try)
		}
	}
}

// others is what may stand in the place of a value.
func others(v reflect.Value) []reflect.Value {
	var l []reflect.Value
	add := func(x any) {
		if !reflect.DeepEqual(x, v.Interface()) {
			l = append(l, reflect.ValueOf(x))
		}
	}
	switch v.Kind() {
	case reflect.Bool:
		add(!v.Bool())
	case reflect.Int:
		for _, n := range []int{-1, 0, 1, 2, 3, 4, 5, 6, 7, 8, 9, 10, 11, 12, math.MinInt, math.MinInt + 1, math.MaxInt} {
			add(n)
		}
	case reflect.String:
		for _, s := range []string{"", "a", "b-0", "A", "B-0", "of", "OF", "IA5String", "a-", "A-", "5", " ", "\"", "~", "ab", "ba", "aa", "a\x1f", "\x1f", "\x7f", "é", "a b", "A--b"} {
			add(s)
		}
	case reflect.Slice:
		l = otherLists(v)
	}
	return l
}

// otherLists is others for a list: it is longer, shorter, or in another order.
func otherLists(v reflect.Value) []reflect.Value {
	zero := reflect.Zero(v.Type().Elem())
	one := reflect.Append(reflect.MakeSlice(v.Type(), 0, 1), zero)
	if v.Len() == 0 {
		return []reflect.Value{one}
	}
	last := v.Len() - 1
	own := func() reflect.Value { return reflect.AppendSlice(reflect.MakeSlice(v.Type(), 0, 0), v) }
	l := []reflect.Value{reflect.Zero(v.Type()), own().Slice(0, last), own().Slice(1, last+1), reflect.Append(own(), zero), reflect.Append(own(), v.Index(0)), reflect.AppendSlice(one, v)}
	if last > 0 {
		turned := own()
		turned.Index(0).Set(v.Index(last))
		turned.Index(last).Set(v.Index(0))
		l = append(l, turned)
	}
	return l
}
