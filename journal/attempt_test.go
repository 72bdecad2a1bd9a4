package journal

import (
	"errors"
	"testing"

	"strongroom/api"
)

// P11.2, P11.3, P11.4: what a step refuses becomes the call's error, and nothing is answered beside it (rule R2).
func TestAttempt(t *testing.T) {
	if n, e := attempt(func() int { return 7 }); n != 7 || e != api.OK {
		t.Errorf("what is answered becomes %d, %d", n, e)
	}
	for _, want := range []api.Errno{api.ErrArg, api.ErrLong, api.ErrRecord} {
		if n, e := attempt(func() int { insist(want); return 7 }); n != 0 || e != want {
			t.Errorf("refusing with %d answers %d, %d", want, n, e)
		}
	}
}

// A fault of the program must not pass for an answer.
func TestAttemptLetsFaultsGoOn(t *testing.T) {
	for _, fault := range []any{errors.New("a fault"), "a fault", 2} {
		func() {
			defer func() {
				if got := recover(); got != fault {
					t.Errorf("a panic with %v goes on as %v", fault, got)
				}
			}()
			n, e := attempt(func() int { panic(fault) })
			t.Errorf("a panic with %v answers %d, %d", fault, n, e)
		}()
	}
}
