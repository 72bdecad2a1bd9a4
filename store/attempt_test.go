package store

import (
	"errors"
	"testing"

	"strongroom/api"
)

// P16.2: what a step refuses becomes the call's error, and nothing is answered beside it (rule R2).
func TestAttempt(t *testing.T) {
	if n, e := attempt(func() int { return 7 }); n != 7 || e != api.OK {
		t.Errorf("what is answered becomes %d, %d", n, e)
	}
	for _, want := range []api.Errno{api.ErrArg, api.ErrFull, api.ErrCode} {
		if n, e := attempt(func() int { insist(want); return 7 }); n != 0 || e != want {
			t.Errorf("refusing with %d answers %d, %d", want, n, e)
		}
		if n, e := attempt(func() int { return must(7, want) }); n != 0 || e != want {
			t.Errorf("what there has to be, refused with %d, is %d, %d", want, n, e)
		}
	}
	if n, e := attempt(func() int { insist(api.OK); return must(7, api.OK) }); n != 7 || e != api.OK {
		t.Errorf("what is not refused becomes %d, %d", n, e)
	}
}

// P16.2: a reply that tells an error is a reply; a refusal becomes one that tells nothing else.
func TestReplyOf(t *testing.T) {
	told := api.Reply{Code: 1, N: 2, M: 3, Bytes: []byte{4}}
	if r := replyOf(func() api.Reply { return told }); !sameReply(r, told) {
		t.Errorf("the reply %v becomes %v", told, r)
	}
	want := api.Reply{Code: api.ErrFull}
	if r := replyOf(func() api.Reply { insist(api.ErrFull); return told }); !sameReply(r, want) {
		t.Errorf("the error ErrFull becomes %v", r)
	}
}

// A fault of the program must not pass for an answer.
func TestAttemptLetsFaultsGoOn(t *testing.T) {
	for _, fault := range []any{errors.New("a fault"), "a fault", 2} {
		func() {
			defer func() {
				if got := recover(); got != fault {
					t.Errorf("a panic with %v goes on as %v", fault, got)
				}
			}()
			n, e := attempt(func() int { panic(fault) })
			t.Errorf("a panic with %v answers %d, %d", fault, n, e)
		}()
	}
}
