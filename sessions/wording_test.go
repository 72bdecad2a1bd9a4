package sessions

import (
	"bytes"
	"fmt"
	"slices"
	"sort"
	"testing"

	"strongroom/api"
	"strongroom/pack"
)

// source gives numbers without a pattern, the same ones in each run.
type source uint32

func (s *source) next() int {
	*s = *s*1664525 + 1013904223
	return int(*s >> 16)
}

func (s *source) below(n int) int { return s.next() % n }

// The kinds of calls.
const (
	open = iota
	expire
	ask
	done
	kinds
)

// call is a call of one of the kinds: what it doesn't take is not looked at.
type call struct {
	kind, id, seq int
	r             api.Reply
}

func (c call) String() string {
	name := []string{"Open", "Expire", "Ask", "Done"}[c.kind]
	return fmt.Sprintf("%s(%d, %d, %v)", name, c.id, c.seq, c.r)
}

// answer is what a call answers.
type answer struct {
	id   int
	r    api.Reply
	seen bool
	e    api.Errno
}

func (a answer) same(b answer) bool {
	return a.id == b.id && a.seen == b.seen && a.e == b.e && sameReply(a.r, b.r)
}

func (c call) to(t *Table) answer {
	var a answer
	switch c.kind {
	case open:
		a.id, a.e = t.Open()
	case expire:
		a.e = t.Expire(c.id)
	case ask:
		a.r, a.seen, a.e = t.Ask(c.id, c.seq)
	case done:
		a.e = t.Done(c.id, c.seq, c.r)
	}
	return a
}

// wording does what the chapter says, with a list in any order.
type wording struct {
	l    []api.Seat
	next int
}

func newWording() *wording { return &wording{next: 1} }

func (w *wording) find(id int) int {
	return slices.IndexFunc(w.l, func(s api.Seat) bool { return s.Id == id })
}

func (c call) toWording(w *wording) answer {
	if c.kind == open {
		if len(w.l) == 8 || w.next == 1<<40 {
			return answer{e: 134}
		}
		w.l = append([]api.Seat{{Id: w.next}}, w.l...)
		w.next++
		return answer{id: w.next - 1}
	}
	i := w.find(c.id)
	if i < 0 {
		return answer{e: 150}
	}
	s := &w.l[i]
	switch {
	case c.kind == expire:
		w.l = append(slices.Clone(w.l[i+1:]), w.l[:i]...)
	case c.kind == ask && (c.seq < s.Seq || c.seq < 1):
		return answer{e: 151}
	case c.kind == ask && c.seq == s.Seq:
		return answer{r: cloneReply(s.Last), seen: true}
	case c.kind == done && !(c.seq > s.Seq):
		return answer{e: 151}
	case c.kind == done:
		*s = api.Seat{Id: c.id, Seq: c.seq, Last: cloneReply(c.r)}
	}
	return answer{}
}

func (w *wording) seats() []api.Seat {
	l := cloneSeats(w.l)
	sort.Slice(l, func(i, j int) bool { return l[i].Id < l[j].Id })
	return l
}

func (w *wording) clone() *wording { return &wording{cloneSeats(w.l), w.next} }

// acceptedByWording tells whether Of takes the list.
func acceptedByWording(l []api.Seat, next int) bool {
	if next < 1 || next > 1<<40 || len(l) > 8 {
		return false
	}
	for i, s := range l {
		if i > 0 && !(l[i-1].Id < s.Id) {
			return false
		}
		if s.Id < 1 || s.Id > next-1 || s.Seq < 0 || s.Seq > 1<<40 {
			return false
		}
		if !replyByWording(s.Last) {
			return false
		}
		if s.Seq == 0 && !sameReply(s.Last, api.Reply{}) {
			return false
		}
	}
	return true
}

// replyByWording tells whether each part of a reply has an encoding.
func replyByWording(r api.Reply) bool {
	for _, n := range []int{int(r.Code), r.N, r.M} {
		if _, e := pack.Put(nil, n); e != api.OK {
			return false
		}
	}
	_, e := pack.PutText(nil, r.Bytes)
	return e == api.OK
}

func sameReply(a, b api.Reply) bool {
	return a.Code == b.Code && a.N == b.N && a.M == b.M && bytes.Equal(a.Bytes, b.Bytes)
}

func sameSeats(a, b []api.Seat) bool {
	return slices.EqualFunc(a, b, func(x, y api.Seat) bool {
		return x.Id == y.Id && x.Seq == y.Seq && sameReply(x.Last, y.Last)
	})
}

// cloneReply and cloneSeats are copies that share no memory.
func cloneReply(r api.Reply) api.Reply {
	r.Bytes = bytes.Clone(r.Bytes)
	return r
}

func cloneSeats(l []api.Seat) []api.Seat {
	c := slices.Clone(l)
	for i := range c {
		c[i].Last = cloneReply(c[i].Last)
	}
	return c
}

// pair is a table and what the chapter's wording makes of it.
type pair struct {
	t *Table
	w *wording
}

func newPair() pair { return pair{New(), newWording()} }

func (p pair) clone() pair { return pair{p.t.Clone(), p.w.clone()} }

// do does the same to both, and tells how they differ, if they do.
func (p pair) do(c call) error {
	before := fmt.Sprint(p.w.seats())
	got, want := c.to(p.t), c.toWording(p.w)
	if !got.same(want) {
		return fmt.Errorf("%v of %s answers %v, want %v", c, before, got, want)
	}
	return p.differ(c.String())
}

func (p pair) differ(name string) error {
	l, next := p.t.Seats()
	if want := p.w.seats(); !sameSeats(l, want) || next != p.w.next {
		return fmt.Errorf("after %s: Seats are %v and %d, want %v and %d", name, l, next, want, p.w.next)
	}
	return nil
}

// restored is a pair whose table went through Seats and Of.
func (p pair) restored() (pair, error) {
	l, next := p.t.Seats()
	t, e := Of(l, next)
	if (e == api.OK) != acceptedByWording(l, next) {
		return p, fmt.Errorf("Of(%v, %d) answers %d", l, next, e)
	}
	if e != api.OK {
		return p, nil
	}
	return pair{t, p.w.clone()}, nil
}

// check stops the test at the first difference.
func check(t *testing.T, differences ...error) {
	t.Helper()
	for _, difference := range differences {
		if difference != nil {
			t.Fatal(difference)
		}
	}
}

// reply is one that n tells, in each of its parts.
func reply(n int) api.Reply {
	return api.Reply{Code: api.Errno(n + 1), N: n + 2, M: n + 3, Bytes: []byte{byte(n), byte(n >> 8), 9}}
}

// P15.1, P15.2: whatever three calls follow each other, in a new table or behind an Open, each does what the chapter says, with an error or without.
func TestAllShortSequences(t *testing.T) {
	var calls []call
	calls = append(calls, call{kind: open})
	for id := 0; id <= 3; id++ {
		calls = append(calls, call{kind: expire, id: id})
		for seq := -1; seq <= 2; seq++ {
			calls = append(calls, call{kind: ask, id: id, seq: seq}, call{done, id, seq, reply(10*id + seq)})
		}
	}
	first := newPair()
	check(t, first.do(call{kind: open}))
	var follow func(p pair, left int)
	follow = func(p pair, left int) {
		for _, c := range calls {
			q := p.clone()
			check(t, q.do(c), p.differ("a call of its clone"))
			if left > 1 {
				follow(q, left-1)
			}
		}
	}
	follow(newPair(), 3)
	follow(first, 3)
}

// P15.1 to P15.4: on long ways of some tables, their clones and what Of makes of their seats, each call does what the chapter says.
func TestLongWays(t *testing.T) {
	s := source(15)
	for way := range 60 {
		pairs := []pair{newPair()}
		for range 300 {
			i := s.below(len(pairs))
			switch {
			case s.below(25) > 0:
				check(t, pairs[i].do(s.call(pairs[i].w)))
			case s.below(2) > 0:
				p, difference := pairs[i].restored()
				check(t, difference)
				pairs[i] = p
			case len(pairs) < 3:
				pairs = append(pairs, pairs[i].clone())
			}
			for _, p := range pairs {
				check(t, p.differ(fmt.Sprintf("a step of way %d", way)))
			}
		}
	}
}

// call is one that has to do with what the table is, more often than not.
func (s *source) call(w *wording) call {
	c := call{kind: s.below(kinds), id: s.below(w.next + 2), seq: s.below(4), r: reply(s.next())}
	if len(w.l) > 0 && s.below(5) > 0 {
		seat := w.l[s.below(len(w.l))]
		c.id, c.seq = seat.Id, seat.Seq+s.below(4)-1
	}
	if c.kind == expire && s.below(2) > 0 {
		c.kind = open
	}
	return c
}
