package dec_test

import (
	"cmp"
	"reflect"
	"slices"
	"testing"
)

// This file goes through all lists in something, to tell whether one of them is
// changed, or is in the room of another one.

// guarded is a copy of something. In it, there is a mark behind each list, in the
// list's room.
func guarded[T any](x T) T {
	return remade(reflect.ValueOf(x), func(l reflect.Value) (reflect.Value, int) {
		marked := reflect.MakeSlice(l.Type(), l.Len()+1, l.Len()+1)
		reflect.Copy(marked, l)
		mark(marked.Index(l.Len()))
		return marked, l.Len()
	}).Interface().(T)
}

// opened is a copy of something. In it, each list consists of what is in its room.
func opened[T any](x T) T {
	return remade(reflect.ValueOf(x), func(l reflect.Value) (reflect.Value, int) {
		all := l.Slice(0, l.Cap())
		c := reflect.MakeSlice(l.Type(), all.Len(), all.Len())
		reflect.Copy(c, all)
		return c, c.Len()
	}).Interface().(T)
}

// remade is a copy of something in which each list is made anew, and then cut to a
// length.
func remade(x reflect.Value, list func(reflect.Value) (reflect.Value, int)) reflect.Value {
	switch x.Kind() {
	case reflect.Slice:
		if x.Cap() == 0 && x.IsNil() {
			x = reflect.MakeSlice(x.Type(), 0, 0)
		}
		c, length := list(x)
		for k := range length {
			c.Index(k).Set(remade(c.Index(k), list))
		}
		return c.Slice(0, length)
	case reflect.Struct:
		c := reflect.New(x.Type()).Elem()
		for k := range x.NumField() {
			c.Field(k).Set(remade(x.Field(k), list))
		}
		return c
	}
	return x
}

// mark fills something with what is not there otherwise.
func mark(x reflect.Value) {
	switch x.Kind() {
	case reflect.Struct:
		for k := range x.NumField() {
			mark(x.Field(k))
		}
	case reflect.String:
		x.SetString("mark")
	case reflect.Int:
		x.SetInt(77)
	case reflect.Uint8:
		x.SetUint(77)
	}
}

// room is where in memory a list is.
type room struct{ from, to uintptr }

// rooms are the rooms of all lists in something.
func rooms(x reflect.Value) []room {
	var l []room
	switch x.Kind() {
	case reflect.Slice:
		if size := uintptr(x.Cap()) * x.Type().Elem().Size(); size > 0 {
			l = append(l, room{x.Pointer(), x.Pointer() + size})
		}
		for k := range x.Len() {
			l = append(l, rooms(x.Index(k))...)
		}
	case reflect.Struct:
		for k := range x.NumField() {
			l = append(l, rooms(x.Field(k))...)
		}
	}
	return l
}

// holdApart holds that no list in an answer has room in common with another one in
// it, or with a list in an argument.
func holdApart(t *testing.T, answer, argument any) {
	t.Helper()
	all := rooms(reflect.ValueOf(answer))
	if len(all) == 0 {
		return
	}
	all = append(all, rooms(reflect.ValueOf(argument))...)
	slices.SortFunc(all, func(a, b room) int { return cmp.Compare(a.from, b.from) })
	for k := range all[1:] {
		if all[k+1].from < all[k].to {
			t.Fatalf("%s shares room with another list, or with %s", shown(answer), shown(argument))
		}
	}
}
