package enc_test

import (
	"bytes"
	"reflect"
	"strings"
	"testing"

	"spandrel/api"
	"spandrel/enc"
	"spandrel/member"
	"spandrel/stream"
)

// variants are the unaligned one and the aligned one.
var variants = []bool{false, true}

// arguments are a table and a value of it.
type arguments struct {
	D []api.Desc
	V api.Value
}

// packed is digits as octets, of which there is at least one.
func packed(digits string) []byte {
	s := filled(digits)
	b := make([]byte, len(s)/8)
	for k := range len(s) {
		b[k/8] = b[k/8]<<1 | (s[k] - '0')
	}
	return b
}

// begun is a text of octets, or how it begins.
func begun(b []byte) string { return shown(b) }

// modelEncode is what Encode says.
func modelEncode(d []api.Desc, aligned bool, v api.Value) ([]byte, api.Errno) {
	if e := member.Check(d, v); e != api.OK {
		return nil, e
	}
	p := page{aligned: aligned}
	if e := p.value(d, 0, v); e != api.OK {
		return nil, e
	}
	return packed(p.String()), api.OK
}

// hold holds what Encode and Leaf answer against the model, in both variants, that
// they change no argument and keep none, and P16.2. It tells the error.
func hold(t *testing.T, d []api.Desc, v api.Value) api.Errno {
	t.Helper()
	var e api.Errno
	for _, aligned := range variants {
		var want []byte
		want, e = modelEncode(d, aligned, v)
		given := guarded(arguments{d, v})
		before := opened(given)
		for range 2 {
			holdOctets(t, given.D, aligned, given.V, want, e)
		}
		if len(d) > 0 {
			holdLeaf(t, given.D[0], aligned, given.V)
		}
		if !reflect.DeepEqual(opened(given), before) {
			t.Fatalf("%s of %s: an argument is changed", shown(v), shown(d))
		}
		if e == api.OK {
			holdDefaults(t, d, aligned, v, want)
		}
	}
	return e
}

// holdOctets holds what Encode answers. The octets are then written over, which
// nobody else is to see.
func holdOctets(t *testing.T, d []api.Desc, aligned bool, v api.Value, want []byte, fault api.Errno) {
	t.Helper()
	b, e := enc.Encode(d, aligned, v)
	if e != fault || !bytes.Equal(b, want) {
		t.Fatalf("%s of %s, aligned %v: %s, %d, not %s, %d", shown(v), shown(d), aligned, begun(b), e, begun(want), fault)
	}
	if (e == api.OK) != (len(b) > 0) || e != api.OK && b != nil {
		t.Fatalf("%s of %s, aligned %v: %d octets beside %d", shown(v), shown(d), aligned, len(b), e)
	}
	all := b[:cap(b)]
	for k := range all {
		all[k] = 0xA5
	}
}

// holdDefaults holds that a value has the same octets with its defaults and without
// them.
func holdDefaults(t *testing.T, d []api.Desc, aligned bool, v api.Value, want []byte) {
	t.Helper()
	whole, e := member.Canon(d, v)
	if e != api.OK {
		t.Fatalf("%s of %s: %d", shown(v), shown(d), e)
	}
	for _, x := range []api.Value{whole, stripped(d, 0, v)} {
		if b, e := enc.Encode(d, aligned, x); e != api.OK || !bytes.Equal(b, want) {
			t.Fatalf("%s of %s, aligned %v: %s, %d, not %s as %s", shown(x), shown(d), aligned, begun(b), e, begun(want), shown(v))
		}
	}
}

// stripped is a value without those parts that are their defaults, at any depth.
func stripped(d []api.Desc, at int, v api.Value) api.Value {
	r := d[at]
	c := v
	c.Names, c.L = nil, nil
	for k, x := range v.L {
		switch v.Kind {
		case api.SeqOf:
			c.L = append(c.L, stripped(d, r.Elem, x))
			continue
		case api.Choice:
			c.L = append(c.L, stripped(d, partOf(r, v.S).T, x))
			continue
		}
		p := partOf(r, v.Names[k])
		if len(p.Def) == 0 || told(p.Def[0]) != told(x) {
			c.Names, c.L = append(c.Names, p.Name), append(c.L, stripped(d, p.T, x))
		}
	}
	return c
}

// partOf is the part with a name.
func partOf(r api.Desc, name string) api.Field {
	for _, p := range allParts(r) {
		if p.Name == name {
			return p
		}
	}
	return api.Field{}
}

// begins are how many bits a Writer may hold ahead of a leaf. For long strings,
// there are fewer of them.
func begins(v api.Value) []int {
	if len(v.S) > 1000 {
		return []int{3}
	}
	return []int{0, 1, 3, 7, 8, 13, 511, 512}
}

// writer is a Writer that holds so many bits, all of them 1.
func writer(bits int) *stream.Writer {
	w := &stream.Writer{}
	for range bits {
		w.Put(1, 1)
	}
	return w
}

// holdLeaf holds what Leaf writes of a value of a row, and where the Writer stands
// then, behind bits of any number.
func holdLeaf(t *testing.T, r api.Desc, aligned bool, v api.Value) {
	t.Helper()
	if e := enc.Leaf(nil, aligned, r, v); e != api.ErrArg {
		t.Fatalf("%s of %s: %d without a Writer", shown(v), shown(r), e)
	}
	fault := member.Check([]api.Desc{r}, v)
	if r.Kind >= api.Seq && r.Kind <= api.Choice {
		fault = api.ErrArg
	}
	for _, bits := range begins(v) {
		p := page{aligned: aligned}
		p.WriteString(strings.Repeat("1", bits))
		if fault == api.OK {
			p.value([]api.Desc{r}, 0, v)
		}
		w := writer(bits)
		e := enc.Leaf(w, aligned, r, v)
		holdBits(t, w, p.String())
		if e != fault {
			t.Fatalf("%s of %s, aligned %v, behind %d bits: %d, not %d", shown(v), shown(r), aligned, bits, e, fault)
		}
	}
}

// holdBits holds the bits of a Writer.
func holdBits(t *testing.T, w *stream.Writer, digits string) {
	t.Helper()
	if w.Len() != len(digits) || !bytes.Equal(w.Bytes(), packed(digits)) {
		t.Fatalf("%d bits, %s, not %d, %s", w.Len(), begun(w.Bytes()), len(digits), begun(packed(digits)))
	}
}

// spelled is the digits of a text. A space in it stands for nothing, and a dash for
// as many zeros as an Align writes.
func spelled(text string) string {
	var p page
	for _, c := range text {
		switch c {
		case ' ':
		case '-':
			p.aligned = true
			p.align()
		default:
			p.WriteRune(c)
		}
	}
	return p.String()
}

// row is a value, and the digits of both variants.
type row struct {
	value             api.Value
	unaligned, padded string
}

// same is a value with the same digits in both variants.
func same(v api.Value, digits string) row { return row{v, digits, digits} }

// aligning is a value with the same digits in both variants, but for the zeros of
// an Align at each dash.
func aligning(v api.Value, digits string) row {
	return row{v, strings.ReplaceAll(digits, "-", ""), digits}
}

// encoded holds that values of a table are encoded as their digits say.
func encoded(t *testing.T, d []api.Desc, l ...row) {
	t.Helper()
	for _, x := range l {
		if e := hold(t, d, x.value); e != api.OK {
			t.Errorf("%s of %s: %d", shown(x.value), shown(d), e)
		}
		for _, aligned := range variants {
			want := packed(spelled(x.unaligned))
			if aligned {
				want = packed(spelled(x.padded))
			}
			if b, e := enc.Encode(d, aligned, x.value); e != api.OK || !bytes.Equal(b, want) {
				t.Errorf("%s of %s, aligned %v: %s, %d, not %s", shown(x.value), shown(d), aligned, begun(b), e, begun(want))
			}
		}
	}
}

// fails holds the error of values, in both variants.
func fails(t *testing.T, d []api.Desc, fault api.Errno, l ...api.Value) {
	t.Helper()
	for _, v := range l {
		if e := hold(t, d, v); e != fault {
			t.Errorf("%s of %s: %d, not %d", shown(v), shown(d), e, fault)
		}
		for _, aligned := range variants {
			if b, e := enc.Encode(d, aligned, v); e != fault || b != nil {
				t.Errorf("%s of %s, aligned %v: %d octets, %d, not %d", shown(v), shown(d), aligned, len(b), e, fault)
			}
		}
	}
}
