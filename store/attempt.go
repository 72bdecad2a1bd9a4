package store

import "strongroom/api"

// attempt is what do answers, or the error that it panics with. A panic with anything else is a fault of the program, not an error: it goes on.
func attempt[T any](do func() T) (answer T, e api.Errno) {
	defer func() {
		switch cause := recover().(type) {
		case nil:
		case api.Errno:
			e = cause
		default:
			panic(cause)
		}
	}()
	return do(), api.OK
}

// replyOf is the reply that do gives, or one with the error that it panics with, and nothing else.
func replyOf(do func() api.Reply) api.Reply {
	r, e := attempt(do)
	if e != api.OK {
		return api.Reply{Code: e}
	}
	return r
}

// insist panics with e, unless it is OK.
func insist(e api.Errno) {
	if e != api.OK {
		panic(e)
	}
}

// must is x, which there has to be.
func must[T any](x T, e api.Errno) T {
	insist(e)
	return x
}
