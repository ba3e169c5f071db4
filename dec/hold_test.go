package dec_test

import (
	"reflect"
	"slices"
	"strings"
	"testing"

	"spandrel/api"
	"spandrel/dec"
	"spandrel/enc"
	"spandrel/member"
	"spandrel/stream"
)

// variants are the unaligned one and the aligned one.
var variants = []bool{false, true}

// arguments are a table and octets.
type arguments struct {
	D []api.Desc
	B []byte
}

// filled is digits with zeros behind them, as octets have them, of which there is
// at least one.
func filled(s string) string {
	if s == "" {
		return "00000000"
	}
	return s + strings.Repeat("0", (8-len(s)%8)%8)
}

// packed is digits as octets, of which there is at least one.
func packed(text string) []byte {
	s := filled(text)
	b := make([]byte, len(s)/8)
	for k := range len(s) {
		b[k/8] = b[k/8]<<1 | (s[k] - '0')
	}
	return b
}

// spelled is the digits of a text. A space in it stands for nothing, and a dash for
// zeros up to a multiple of 8.
func spelled(text string) string {
	var b strings.Builder
	for _, c := range text {
		switch c {
		case ' ':
		case '-':
			for b.Len()%8 > 0 {
				b.WriteByte('0')
			}
		default:
			b.WriteRune(c)
		}
	}
	return b.String()
}

// isEmpty tells whether a value has nothing set.
func isEmpty(v api.Value) bool { return reflect.DeepEqual(v, api.Value{}) }

// light holds what Decode answers of octets against the model, in one variant.
func light(t *testing.T, d []api.Desc, aligned bool, b []byte) (api.Value, api.Errno, bool) {
	t.Helper()
	want, fault, isOwn := modelDecode(d, aligned, b)
	if fault == tooMany {
		return want, fault, false
	}
	v, e := dec.Decode(d, aligned, b)
	if e != fault || told(v) != told(want) {
		t.Fatalf("%s by %s, aligned %v: %s, %d, not %s, %d", shown(b), shown(d), aligned, shown(v), e, shown(want), fault)
	}
	if e != api.OK && !isEmpty(v) {
		t.Fatalf("%s by %s, aligned %v: %s beside %d", shown(b), shown(d), aligned, shown(v), e)
	}
	if e == api.OK {
		holdConsequences(t, d, aligned, b, v, isOwn)
	}
	return v, e, isOwn
}

// holdConsequences holds P17.2 of a value that was decoded: it belongs to the type,
// has all defaults, and is the same when it is encoded and decoded again. The octets
// are those that Encode writes, unless another version of the type has written them.
func holdConsequences(t *testing.T, d []api.Desc, aligned bool, b []byte, v api.Value, isOwn bool) {
	t.Helper()
	if c, e := member.Canon(d, v); e != api.OK || told(c) != told(v) {
		t.Fatalf("%s by %s, aligned %v: %s, with all defaults %s, %d", shown(b), shown(d), aligned, shown(v), shown(c), e)
	}
	again, e := enc.Encode(d, aligned, v)
	if e != api.OK || isOwn && !slices.Equal(again, b) {
		t.Fatalf("%s by %s, aligned %v: %s, which is %s, %d", shown(b), shown(d), aligned, shown(v), shown(again), e)
	}
	if x, e := dec.Decode(d, aligned, again); e != api.OK || told(x) != told(v) {
		t.Fatalf("%s by %s, aligned %v: %s, and then %s, %d", shown(b), shown(d), aligned, shown(v), shown(x), e)
	}
}

// hold holds what Decode answers of octets, in one variant, that it changes no
// argument, and keeps none; and what Leaf reads of them. It tells the answer.
func hold(t *testing.T, d []api.Desc, aligned bool, b []byte) (api.Value, api.Errno) {
	t.Helper()
	want, fault, _ := light(t, d, aligned, b)
	if fault == tooMany {
		return want, fault
	}
	given := guarded(arguments{d, b})
	before := opened(given)
	for range 2 {
		v, e := dec.Decode(given.D, aligned, given.B)
		if e != fault || told(v) != told(want) {
			t.Fatalf("%s by %s, aligned %v: %s, %d, not %s, %d", shown(b), shown(d), aligned, shown(v), e, shown(want), fault)
		}
		holdApart(t, v, given)
		// What is written into an answer, nobody else is to see.
		spoil(v)
	}
	if !reflect.DeepEqual(opened(given), before) {
		t.Fatalf("%s by %s, aligned %v: an argument is changed", shown(b), shown(d), aligned)
	}
	for _, r := range d[:min(len(d), 3)] {
		holdLeaf(t, r, aligned, b)
	}
	return want, fault
}

// spoil writes over all lists of a value.
func spoil(v api.Value) {
	for k := range v.Names {
		v.Names[k] = "spoilt"
	}
	for k := range v.L {
		spoil(v.L[k])
		v.L[k] = api.Value{Kind: -5, N: -5, S: "spoilt"}
	}
}

// holdLeaf holds what Leaf reads of a row, behind bits of any number, and where the
// Reader stands then.
func holdLeaf(t *testing.T, r api.Desc, aligned bool, b []byte) {
	t.Helper()
	if v, e := dec.Leaf(nil, aligned, r); e != api.ErrArg || !isEmpty(v) {
		t.Fatalf("%s: %s, %d without a Reader", shown(r), shown(v), e)
	}
	isRight := r.Kind < api.Seq && member.Right([]api.Desc{r})
	text := spread(b)
	for _, bits := range []int{0, 1, 3, 8, 13} {
		s := sheet{digits: spread(packed(strings.Repeat("1", bits) + text))}
		s.at, s.aligned = bits, aligned
		if bits+len(text) == 0 {
			s.digits = ""
		}
		reader := stream.New(packOf(s.digits))
		reader.Get(bits)
		var want api.Value
		if isRight {
			want = s.value([]api.Desc{r}, 0, 1)
		}
		s.refuse(!isRight, api.ErrArg)
		v, e := dec.Leaf(reader, aligned, r)
		if e != s.fault || e == api.OK && told(v) != told(want) || e != api.OK && !isEmpty(v) {
			t.Fatalf("%s by %s, aligned %v, behind %d bits: %s, %d, not %s, %d", shown(b), shown(r), aligned, bits, shown(v), e, shown(want), s.fault)
		}
		if e == api.OK && reader.Pos() != s.at || e == api.ErrArg && reader.Pos() != bits {
			t.Fatalf("%s by %s, aligned %v, behind %d bits: %d bits are read, not %d", shown(b), shown(r), aligned, bits, reader.Pos(), s.at)
		}
	}
}

// packOf is digits as octets, none if there are no digits.
func packOf(text string) []byte {
	if text == "" {
		return nil
	}
	return packed(text)
}

// row is digits of both variants, and the value or the error that they are.
type row struct {
	value             api.Value
	fault             api.Errno
	unaligned, padded string
}

// same is a value with the same digits in both variants.
func same(v api.Value, text string) row { return row{v, api.OK, text, text} }

// aligning is a value with the same digits in both variants, but for the zeros of
// an Align at each dash.
func aligning(v api.Value, text string) row {
	return row{v, api.OK, strings.ReplaceAll(text, "-", ""), text}
}

// apart is a value with other digits in each variant.
func apart(v api.Value, unaligned, padded string) row { return row{v, api.OK, unaligned, padded} }

// wrong is an error of the same digits in both variants, but for the zeros of an
// Align at each dash.
func wrong(e api.Errno, text string) row {
	return row{api.Value{}, e, strings.ReplaceAll(text, "-", ""), text}
}

// wrongApart is an error of other digits in each variant.
func wrongApart(e api.Errno, unaligned, padded string) row {
	return row{api.Value{}, e, unaligned, padded}
}

// digitsOf is the digits of a row in one of the variants.
func (x row) digitsOf(aligned bool) string {
	if aligned {
		return spelled(x.padded)
	}
	return spelled(x.unaligned)
}

// decoded holds that digits are decoded by a table as the rows say, in both
// variants: zeros fill the last octet.
func decoded(t *testing.T, d []api.Desc, l ...row) {
	t.Helper()
	for _, x := range l {
		for _, aligned := range variants {
			b := packed(x.digitsOf(aligned))
			v, e := hold(t, d, aligned, b)
			if e != x.fault || told(v) != told(x.value) {
				t.Errorf("%s by %s, aligned %v: %s, %d, not %s, %d", shown(b), shown(d), aligned, shown(v), e, shown(x.value), x.fault)
			}
		}
	}
}

// brief is decoded for long digits.
func brief(t *testing.T, d []api.Desc, l ...row) {
	t.Helper()
	for _, x := range l {
		for _, aligned := range variants {
			b := packed(x.digitsOf(aligned))
			v, e, _ := light(t, d, aligned, b)
			if e != x.fault || told(v) != told(x.value) {
				t.Errorf("%s by %s, aligned %v: %s, %d, not %s, %d", shown(b), shown(d), aligned, shown(v), e, shown(x.value), x.fault)
			}
		}
	}
}

// octetsAre holds the answer for octets, in both variants.
func octetsAre(t *testing.T, d []api.Desc, fault api.Errno, v api.Value, b ...byte) {
	t.Helper()
	for _, aligned := range variants {
		if x, e := hold(t, d, aligned, b); e != fault || told(x) != told(v) {
			t.Errorf("%s by %s, aligned %v: %s, %d, not %s, %d", shown(b), shown(d), aligned, shown(x), e, shown(v), fault)
		}
	}
}
