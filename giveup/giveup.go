// Package giveup: how functions that read bytes give up from deep inside.
package giveup

import "silt/api"

// sign is what a panic carries when reading gives up. No other package can make one, so a panic of any other cause is never taken for it.
type sign struct{}

// Unless gives up if ok does not hold.
func Unless(ok bool) {
	if !ok {
		panic(sign{})
	}
}

// Catch tells what read answers, or nothing and ErrForm if it gave up.
func Catch[T any](read func() T) (answer T, e api.Errno) {
	defer func() {
		cause := recover()
		if cause == nil {
			return
		}
		if _, ok := cause.(sign); !ok {
			panic(cause) // a fault of the program is not to be hidden
		}
		e = api.ErrForm
	}()
	return read(), api.OK
}
