package dec

import "spandrel/api"

// fault is the error by which decoding is ended, in a panic.
type fault api.Errno

// refuse ends decoding by an error, if something is so.
func refuse(is bool, e api.Errno) {
	if is {
		panic(fault(e))
	}
}

// must returns what was read, or ends decoding by the error beside it.
func must[T any](x T, e api.Errno) T {
	refuse(e != api.OK, e)
	return x
}

// caught returns what a function reads, or the error by which it is ended.
func caught[T any](read func() T) (x T, e api.Errno) {
	// Unless it is read to its end, it is refused, whatever the panic is.
	e = api.ErrForm
	defer func() {
		if f, is := recover().(fault); is {
			e = api.Errno(f)
		}
	}()
	return read(), api.OK
}
