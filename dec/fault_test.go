package dec

import (
	"testing"

	"spandrel/api"
)

// holdCaught holds what is caught of a function.
func holdCaught[T comparable](t *testing.T, read func() T, want T, fault api.Errno) {
	t.Helper()
	if x, e := caught(read); x != want || e != fault {
		t.Errorf("%v, %d, not %v, %d", x, e, want, fault)
	}
}

// P17.1: what is read, or the first error, by which reading is ended.
func TestCaught(t *testing.T) {
	read := 0
	holdCaught(t, func() int { return must(7, api.OK) }, 7, api.OK)
	holdCaught(t, func() string { refuse(false, api.ErrForm); return "a" }, "a", api.OK)
	for e := api.ErrArg; e <= api.ErrFuel; e++ {
		holdCaught(t, func() int { x := must(7, e); read++; return x }, 0, e)
		holdCaught(t, func() string { refuse(true, e); read++; return "a" }, "", e)
		holdCaught(t, func() bool { return must(true, api.OK) && must(true, e) && must(true, api.ErrArg) }, false, e)
	}
	if read > 0 {
		t.Error("something is read behind an error")
	}
}

// R1: any other panic does not leave the package, either, and is no value.
func TestCaughtOthers(t *testing.T) {
	var none []int
	holdCaught(t, func() int { return none[len(none)] }, 0, api.ErrForm)
	holdCaught(t, func() int { panic("x") }, 0, api.ErrForm)
	holdCaught(t, func() int { panic(api.ErrShort) }, 0, api.ErrForm)
}
