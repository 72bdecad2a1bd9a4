package sessions

import (
	"math"
	"slices"
	"testing"

	"strongroom/api"
)

// expect holds what a call answers to what is wanted.
func expect(t *testing.T, table *Table, c call, want answer) {
	t.Helper()
	if got := c.to(table); !got.same(want) {
		l, next := table.Seats()
		t.Fatalf("%v of %v and %d answers %v, want %v", c, l, next, got, want)
	}
}

// refused expects an error, with nothing beside it and nothing changed (rule R2).
func refused(t *testing.T, table *Table, c call, want api.Errno) {
	t.Helper()
	l, next := table.Seats()
	expect(t, table, c, answer{e: want})
	seats(t, table, l, next)
}

// seats expects what Seats tells.
func seats(t *testing.T, table *Table, want []api.Seat, wantNext int) {
	t.Helper()
	if l, next := table.Seats(); !sameSeats(l, want) || next != wantNext {
		t.Fatalf("Seats are %v and %d, want %v and %d", l, next, want, wantNext)
	}
}

func of(t *testing.T, l []api.Seat, next int) *Table {
	t.Helper()
	table, e := Of(l, next)
	if e != api.OK || table == nil {
		t.Fatalf("Of(%v, %d) gives the error %d", l, next, e)
	}
	return table
}

func ofRefused(t *testing.T, l []api.Seat, next int) {
	t.Helper()
	if table, e := Of(l, next); e != api.ErrArg || table != nil {
		t.Errorf("Of(%v, %d) gives %v and the error %d, want no table and ErrArg", l, next, table, e)
	}
}

// some are sessions with the numbers, each one after a request of its own.
func some(ids ...int) []api.Seat {
	var l []api.Seat
	for _, id := range ids {
		l = append(l, api.Seat{Id: id, Seq: 100 + id%100, Last: reply(id % 100)})
	}
	return l
}

// noNumbers are numbers of no session, if those up to the last one are.
func noNumbers(last int) []int {
	return []int{
		last + 1, last + 2, last + 8, 255, 256, 1<<32 + 1, 1 << 40, math.MaxInt - 1, math.MaxInt,
		0, -1, -2, -last, -256, math.MinInt32, math.MinInt + 1, math.MinInt,
	}
}

// P15.1, P15.2: the chapter's examples.
func TestTheChaptersExamples(t *testing.T) {
	table, r := New(), reply(7)
	expect(t, table, call{kind: open}, answer{id: 1})
	expect(t, table, call{kind: ask, id: 1, seq: 5}, answer{})
	expect(t, table, call{done, 1, 5, r}, answer{})
	expect(t, table, call{kind: ask, id: 1, seq: 5}, answer{r: r, seen: true})
	expect(t, table, call{kind: ask, id: 1, seq: 4}, answer{e: api.ErrOld})
	expect(t, table, call{kind: ask, id: 1, seq: 6}, answer{})

	expect(t, table, call{kind: expire, id: 1}, answer{})
	expect(t, table, call{kind: ask, id: 1, seq: 5}, answer{e: api.ErrSession})
	expect(t, table, call{kind: open}, answer{id: 2})
}

// P15.1: a new table has no sessions, whatever other tables have, and so has the zero value.
func TestNewTables(t *testing.T) {
	other := New()
	other.Open()
	other.Done(1, 1, reply(1))
	for _, table := range []*Table{New(), new(Table), New().Clone(), new(Table).Clone(), of(t, nil, 1), of(t, []api.Seat{}, 1)} {
		seats(t, table, nil, 1)
		for _, id := range []int{1, 0, -1, 2} {
			for kind := expire; kind < kinds; kind++ {
				refused(t, table, call{kind, id, 1, reply(2)}, api.ErrSession)
			}
		}
		expect(t, table, call{kind: open}, answer{id: 1})
		seats(t, table, []api.Seat{{Id: 1}}, 2)
	}
	seats(t, other, []api.Seat{{Id: 1, Seq: 1, Last: reply(1)}}, 2)
}

// P15.1: sessions are numbered from 1 on, each one without a request, and there are eight at most.
func TestOpen(t *testing.T) {
	table := New()
	var want []api.Seat
	for n := 1; n <= 8; n++ {
		expect(t, table, call{kind: open}, answer{id: n})
		want = append(want, api.Seat{Id: n})
		seats(t, table, want, n+1)
	}
	for range 3 {
		refused(t, table, call{kind: open}, api.ErrFull)
	}
	for n := 1; n <= 8; n++ {
		expect(t, table, call{kind: ask, id: n, seq: 1}, answer{})
	}
}

// P15.1: Open leaves the other sessions as they are.
func TestOpenBesideOthers(t *testing.T) {
	table := of(t, some(2, 5, 6), 9)
	expect(t, table, call{kind: open}, answer{id: 9})
	expect(t, table, call{kind: open}, answer{id: 10})
	seats(t, table, append(some(2, 5, 6), api.Seat{Id: 9}, api.Seat{Id: 10}), 11)
}

// P15.1: where a session expired there is room for another one, with a number of its own.
func TestRoomAfterExpire(t *testing.T) {
	for id := 1; id <= 8; id++ {
		table := of(t, some(1, 2, 3, 4, 5, 6, 7, 8), 9)
		leaves := id
		for next := 9; next < 13; next++ {
			refused(t, table, call{kind: open}, api.ErrFull)
			expect(t, table, call{kind: expire, id: leaves}, answer{})
			expect(t, table, call{kind: open}, answer{id: next})
			expect(t, table, call{kind: ask, id: next, seq: 1}, answer{})
			leaves = next
		}
	}
}

// P15.1: the numbers end below the greatest index.
func TestTheLastNumbers(t *testing.T) {
	const last = 1<<40 - 1
	for _, l := range [][]api.Seat{nil, some(1), some(1, 2, 3, 4, 5, 6, last-2), some(last - 2)} {
		table := of(t, l, last-1)
		if len(l) < 7 {
			expect(t, table, call{kind: open}, answer{id: last - 1})
			expect(t, table, call{kind: expire, id: last - 1}, answer{})
		} else {
			table = of(t, l, last)
		}
		expect(t, table, call{kind: open}, answer{id: last})
		seats(t, table, append(cloneSeats(l), api.Seat{Id: last}), 1<<40)
		for range 3 {
			refused(t, table, call{kind: open}, api.ErrFull)
		}
		expect(t, table, call{kind: expire, id: last}, answer{})
		refused(t, table, call{kind: open}, api.ErrFull)
		seats(t, table, l, 1<<40)
	}
	refused(t, of(t, nil, 1<<40), call{kind: open}, api.ErrFull)
	refused(t, of(t, some(last), 1<<40), call{kind: open}, api.ErrFull)
}

// P15.1: Expire removes one session, once; the others and the next number stay.
func TestExpire(t *testing.T) {
	ids := []int{1, 2, 3, 10, 11, 20, 1 << 33, 1 << 39}
	for i, id := range ids {
		table := of(t, some(ids...), 1<<39+1)
		expect(t, table, call{kind: expire, id: id}, answer{})
		left := some(slices.Delete(slices.Clone(ids), i, i+1)...)
		seats(t, table, left, 1<<39+1)
		for kind := expire; kind < kinds; kind++ {
			refused(t, table, call{kind, id, 1000, reply(1)}, api.ErrSession)
			refused(t, table, call{kind, id, 100 + id%100, reply(1)}, api.ErrSession)
		}
		for _, s := range left {
			expect(t, table, call{kind: ask, id: s.Id, seq: s.Seq}, answer{r: s.Last, seen: true})
			expect(t, table, call{kind: expire, id: s.Id}, answer{})
		}
		seats(t, table, nil, 1<<39+1)
	}
}

// P15.1, P15.2: there is no such session, whatever the request: that is told ahead of an old one.
func TestThereIsNoSuchSession(t *testing.T) {
	for count := range 9 {
		table := of(t, some(1, 2, 3, 4, 5, 6, 7, 8)[:count], count+1)
		for kind := expire; kind < kinds; kind++ {
			for _, id := range noNumbers(count) {
				for _, seq := range []int{1, 0, -1, 101, math.MinInt, math.MaxInt} {
					refused(t, table, call{kind, id, seq, reply(3)}, api.ErrSession)
				}
			}
		}
	}
	table := of(t, some(2, 4), 9)
	for _, id := range []int{1, 3, 5, 8, 9} {
		for kind := expire; kind < kinds; kind++ {
			refused(t, table, call{kind, id, 1, reply(3)}, api.ErrSession)
		}
	}
}

// P15.2: what Ask answers hangs on how the request stands to the last one of the session, and it changes nothing.
func TestAsk(t *testing.T) {
	for _, last := range []int{1, 2, 5, 255, 256, 1 << 32, 1<<40 - 1, 1 << 40} {
		l := []api.Seat{{Id: 1}, {Id: 3, Seq: last, Last: reply(9)}, {Id: 4, Seq: 1, Last: reply(8)}}
		table := of(t, l, 6)
		for _, seq := range []int{last - 1, last - 2, last / 2, 0, -1, -last, -last - 1, math.MinInt + 1, math.MinInt} {
			if seq < last {
				refused(t, table, call{kind: ask, id: 3, seq: seq}, api.ErrOld)
			}
		}
		for range 3 {
			expect(t, table, call{kind: ask, id: 3, seq: last}, answer{r: reply(9), seen: true})
		}
		for _, seq := range []int{last + 1, last + 2, 2*last + 1, 1<<40 + 1, math.MaxInt - 1, math.MaxInt} {
			expect(t, table, call{kind: ask, id: 3, seq: seq}, answer{})
		}
		seats(t, table, l, 6)
	}
}

// P15.2: of a session without a request every request from 1 on is new, and there are none below.
func TestAskOfASessionWithoutARequest(t *testing.T) {
	table := of(t, []api.Seat{{Id: 1}, {Id: 2, Seq: 3, Last: reply(1)}}, 3)
	for _, seq := range []int{0, -1, -2, -256, math.MinInt} {
		refused(t, table, call{kind: ask, id: 1, seq: seq}, api.ErrOld)
	}
	for _, seq := range []int{1, 2, 3, 256, 1 << 40, 1<<40 + 1, math.MaxInt} {
		expect(t, table, call{kind: ask, id: 1, seq: seq}, answer{})
	}
	seats(t, table, []api.Seat{{Id: 1}, {Id: 2, Seq: 3, Last: reply(1)}}, 3)
}

// P15.2: Done records what is newer than the last request, however much newer, and nothing else, of one session alone.
func TestDone(t *testing.T) {
	for _, last := range []int{0, 1, 2, 5, 256, 1 << 32, 1<<40 - 1, 1 << 40} {
		l := []api.Seat{{Id: 1}, {Id: 3, Seq: last, Last: reply(9)}, {Id: 4, Seq: 1, Last: reply(8)}}
		if last == 0 {
			l[1].Last = api.Reply{}
		}
		for _, seq := range []int{last, last - 1, last - 2, 0, -1, -last - 1, math.MinInt + 1, math.MinInt} {
			if seq <= last {
				refused(t, of(t, l, 6), call{done, 3, seq, reply(7)}, api.ErrOld)
			}
		}
		for _, seq := range []int{last + 1, last + 2, 2*last + 1, 1<<40 + 1, math.MaxInt - 1, math.MaxInt} {
			table := of(t, l, 6)
			expect(t, table, call{done, 3, seq, reply(7)}, answer{})
			seats(t, table, []api.Seat{l[0], {Id: 3, Seq: seq, Last: reply(7)}, l[2]}, 6)
			refused(t, table, call{done, 3, seq, reply(6)}, api.ErrOld)
			refused(t, table, call{kind: ask, id: 3, seq: seq - 1}, api.ErrOld)
			expect(t, table, call{kind: ask, id: 3, seq: seq}, answer{r: reply(7), seen: true})
		}
	}
}

// P15.2: a reply of any kind is recorded as it is.
func TestAnyReply(t *testing.T) {
	long := make([]byte, 5000)
	long[4999] = 1
	replies := []api.Reply{
		{}, {Code: 134}, {N: 1}, {M: 1}, {Bytes: []byte{0}}, {Bytes: []byte{}}, {Bytes: long}, reply(1),
		{Code: -1}, {N: -1}, {M: -1}, {Code: math.MaxInt, N: math.MaxInt, M: math.MaxInt}, {Code: math.MinInt, N: math.MinInt, M: math.MinInt},
	}
	table := New()
	table.Open()
	for i, r := range replies {
		expect(t, table, call{done, 1, i + 1, r}, answer{})
		expect(t, table, call{kind: ask, id: 1, seq: i + 1}, answer{r: r, seen: true})
		seats(t, table, []api.Seat{{Id: 1, Seq: i + 1, Last: r}}, 2)
		seats(t, table.Clone(), []api.Seat{{Id: 1, Seq: i + 1, Last: r}}, 2)
	}
}

// P15.3: Seats are in the order of their numbers, in whatever order their requests were.
func TestSeatsAreInOrder(t *testing.T) {
	for round := range 20 {
		s := source(round)
		table := of(t, nil, 95)
		for range 8 {
			table.Open()
		}
		for range 30 {
			table.Done(95+s.below(8), s.below(1000), reply(s.next()))
		}
		l, _ := table.Seats()
		for i, x := range l {
			if x.Id != 95+i {
				t.Fatalf("Seats are %v", l)
			}
		}
		if len(l) != 8 {
			t.Fatalf("there are %d sessions", len(l))
		}
	}
}

// P15.3: Of makes a table that goes on from what Seats told.
func TestOfGoesOn(t *testing.T) {
	lists := [][]api.Seat{nil, some(1), some(8), some(2, 5), some(1, 2, 3, 4, 5, 6, 7, 8), {{Id: 1}, {Id: 2, Seq: 1}, {Id: 8, Seq: 1 << 40, Last: api.Reply{Code: math.MaxInt}}}}
	for _, l := range lists {
		for _, next := range []int{9, 10, 1<<40 - 1, 1 << 40} {
			table := of(t, l, next)
			seats(t, table, l, next)
			for _, s := range l {
				if s.Seq > 0 {
					expect(t, table, call{kind: ask, id: s.Id, seq: s.Seq}, answer{r: s.Last, seen: true})
				}
				expect(t, table, call{kind: ask, id: s.Id, seq: s.Seq + 1}, answer{})
			}
			if len(l) < 8 && next < 1<<40 {
				expect(t, table, call{kind: open}, answer{id: next})
			} else {
				refused(t, table, call{kind: open}, api.ErrFull)
			}
		}
	}
}

// P15.3: the next number is from 1 to the greatest index.
func TestOfTheNextNumber(t *testing.T) {
	for _, next := range []int{1, 2, 256, 1 << 32, 1<<40 - 1, 1 << 40} {
		seats(t, of(t, nil, next), nil, next)
	}
	for _, next := range []int{0, -1, -256, math.MinInt, 1<<40 + 1, 1<<40 + 2, 1 << 41, math.MaxInt} {
		ofRefused(t, nil, next)
		ofRefused(t, some(1), next)
	}
}

// P15.3: there are eight sessions at most.
func TestOfTooMany(t *testing.T) {
	ids := []int{1, 2, 3, 4, 5, 6, 7, 8, 9, 10, 11, 12, 13, 14, 15, 16, 17}
	for count := range ids {
		l := some(ids[:count]...)
		if count <= 8 {
			seats(t, of(t, l, 100), l, 100)
		} else {
			ofRefused(t, l, 100)
		}
	}
}

// P15.3: the numbers increase, and are from 1 to the one ahead of the next.
func TestOfTheNumbers(t *testing.T) {
	wrong := [][]int{
		{1, 1}, {2, 1}, {1, 2, 2}, {1, 3, 2}, {3, 1, 2}, {1, 2, 3, 4, 5, 6, 7, 7}, {1, 2, 3, 4, 5, 6, 8, 7}, {2, 2, 3}, {9, 8, 7}, {5, 6, 1},
		{0}, {-1}, {0, 1}, {-1, 1}, {-2, -1}, {math.MinInt}, {math.MinInt, 1},
		{10}, {11}, {1, 10}, {1, 2, 10}, {9, 10}, {8, 10}, {math.MaxInt}, {1 << 40}, {10, 1},
	}
	for _, ids := range wrong {
		ofRefused(t, some(ids...), 10)
	}
	for _, ids := range [][]int{{1}, {9}, {1, 9}, {8, 9}, {2, 3, 4, 5, 6, 7, 8, 9}} {
		seats(t, of(t, some(ids...), 10), some(ids...), 10)
	}
	ofRefused(t, some(1), 1)
	ofRefused(t, some(1, 2), 2)
	ofRefused(t, some(1<<40), 1<<40)
	seats(t, of(t, some(1<<40-1), 1<<40), some(1<<40-1), 1<<40)
}

// P15.3: what a session may be, in each place of the list.
func TestOfWhatASessionIs(t *testing.T) {
	long := make([]byte, 4097)
	right := []api.Seat{
		{}, {Last: api.Reply{Bytes: []byte{}}}, {Seq: 1}, {Seq: 1 << 40}, {Seq: 1, Last: reply(1)}, {Seq: 1, Last: api.Reply{Bytes: long[:4096]}},
		{Seq: 1, Last: api.Reply{Code: math.MaxInt, N: math.MaxInt, M: math.MaxInt}},
	}
	wrong := []api.Seat{
		{Seq: -1}, {Seq: -1 << 40}, {Seq: math.MinInt}, {Seq: 1<<40 + 1}, {Seq: math.MaxInt}, {Seq: -1, Last: reply(1)}, {Seq: 1<<40 + 1, Last: reply(1)},
		{Seq: 1, Last: api.Reply{Code: -1}}, {Seq: 1, Last: api.Reply{N: -1}}, {Seq: 1, Last: api.Reply{M: -1}}, {Seq: 1, Last: api.Reply{Bytes: long}},
		{Seq: 1 << 40, Last: api.Reply{Code: math.MinInt}}, {Seq: 1, Last: api.Reply{N: math.MinInt}}, {Seq: 1, Last: api.Reply{M: math.MinInt}},
		{Last: api.Reply{Code: 1}}, {Last: api.Reply{N: 1}}, {Last: api.Reply{M: 1}}, {Last: api.Reply{Bytes: []byte{0}}}, {Last: reply(1)},
		{Last: api.Reply{Code: -1}}, {Last: api.Reply{N: -1}}, {Last: api.Reply{M: -1}}, {Last: api.Reply{Bytes: long}}, {Last: api.Reply{N: math.MaxInt}},
	}
	for count := 1; count <= 8; count++ {
		for place := range count {
			put := func(s api.Seat) []api.Seat {
				l := some(1, 3, 5, 7, 9, 11, 13, 15)[:count]
				s.Id = l[place].Id
				l[place] = s
				return l
			}
			for _, s := range right {
				seats(t, of(t, put(s), 17), put(s), 17)
			}
			for _, s := range wrong {
				ofRefused(t, put(s), 17)
			}
		}
	}
}

// P15.3: Of accepts what the chapter says, whatever comes together.
func TestOfByTheWording(t *testing.T) {
	s := source(3)
	accepted := 0
	for range 30000 {
		next := []int{1, 3, 9, 9, 9, 1 << 40, 0, 1<<40 + 1}[s.below(8)]
		var l []api.Seat
		id := 0
		for range s.below(11) {
			id += []int{1, 1, 1, 1, 1, 1, 2, 0}[s.below(8)]
			x := api.Seat{Id: id}
			if s.below(2) > 0 {
				x.Seq = []int{1, 1, 1, 2, 1 << 40, -1}[s.below(6)]
			}
			if x.Seq != 0 || s.below(30) == 0 {
				x.Last = []api.Reply{{}, {N: 1}, reply(1), {M: -1}}[s.below(13)/4]
			}
			l = append(l, x)
		}
		want := acceptedByWording(l, next)
		if !want {
			ofRefused(t, l, next)
			continue
		}
		accepted++
		seats(t, of(t, l, next), l, next)
	}
	if accepted < 1000 {
		t.Errorf("only %d lists were accepted", accepted)
	}
}

// roomy is a list, or bytes, with spare capacity behind it.
func roomy[T any](l []T) []T { return append(make([]T, 0, len(l)+8), l...) }

// R7: what is given stays as it is and isn't kept, and what is answered belongs to the caller.
func TestMemoryIsNotShared(t *testing.T) {
	given := reply(1)
	given.Bytes = roomy(given.Bytes)
	table := New()
	table.Open()
	table.Done(1, 1, given)
	spoilt := func(name string, spoil func()) {
		t.Helper()
		clone := table.Clone()
		spoil()
		seats(t, table, []api.Seat{{Id: 1, Seq: 1, Last: reply(1)}}, 2)
		seats(t, clone, []api.Seat{{Id: 1, Seq: 1, Last: reply(1)}}, 2)
		if t.Failed() {
			t.Fatalf("after %s", name)
		}
	}
	spoil := func(b []byte) {
		b = b[:cap(b)]
		for i := range b {
			b[i] ^= 0xff
		}
	}
	spoilt("a change of what Done was given", func() { spoil(given.Bytes) })
	spoilt("a change of what Ask answers", func() {
		r, _, _ := table.Ask(1, 1)
		spoil(r.Bytes)
	})
	spoilt("a change of what Seats answers", func() {
		l, _ := table.Seats()
		spoil(l[0].Last.Bytes)
		l[0] = api.Seat{Id: 5}
	})
	spoilt("a change of what a clone answers", func() {
		r, _, _ := table.Clone().Ask(1, 1)
		spoil(r.Bytes)
	})
}

// R7: Done and Of leave what they are given as it is, and the room behind it.
func TestArgumentsStayAsTheyAre(t *testing.T) {
	l := roomy(some(1, 2, 3))
	for i := range l {
		l[i].Last.Bytes = roomy(l[i].Last.Bytes)
	}
	behind := l[:cap(l)]
	before := cloneSeats(behind)
	table := of(t, l, 4)
	table.Open()
	table.Done(1, 500, l[0].Last)
	table.Done(4, 500, l[1].Last)
	table.Done(4, 501, api.Reply{})
	table.Expire(2)
	if !sameSeats(behind, before) {
		t.Errorf("the list has become %v, want %v", behind, before)
	}
	for i, s := range l {
		if room := s.Last.Bytes[:cap(s.Last.Bytes)]; !slices.Equal(room, append(reply(i+1).Bytes, make([]byte, 8)...)) {
			t.Errorf("the bytes have become %v", room)
		}
	}
}

// R7: a table of Of doesn't keep the list, nor the bytes in it.
func TestOfKeepsNothing(t *testing.T) {
	l := roomy(some(1, 2, 3))
	table := of(t, l, 4)
	for i := range l {
		l[i].Last.Bytes[0] ^= 0xff
		l[i].Seq = 7
	}
	l[0].Id = 9
	seats(t, table, some(1, 2, 3), 4)
}

// R7: each of two clones goes its own way, whichever is changed.
func TestClonesAreIndependent(t *testing.T) {
	changes := []call{{kind: open}, {kind: expire, id: 1}, {kind: expire, id: 3}, {done, 2, 200, reply(50)}, {done, 1, 200, reply(51)}}
	for _, c := range changes {
		for _, changesClone := range []bool{false, true} {
			table := of(t, some(1, 2, 3), 4)
			clone := table.Clone()
			changed, other := table, clone
			if changesClone {
				changed, other = clone, table
			}
			c.to(changed)
			seats(t, other, some(1, 2, 3), 4)
			if l, next := changed.Seats(); sameSeats(l, some(1, 2, 3)) && next == 4 {
				t.Errorf("%v changes nothing", c)
			}
		}
	}
	empty := New()
	clone := empty.Clone()
	clone.Open()
	seats(t, empty, nil, 1)
	empty.Open()
	empty.Open()
	seats(t, clone, []api.Seat{{Id: 1}}, 2)
}

// P15.4: no number is given to two sessions, whatever expires, and in whatever order.
func TestNoNumberIsGivenTwice(t *testing.T) {
	for round := range 20 {
		s := source(round)
		table := New()
		last := 0
		for range 500 {
			l, next := table.Seats()
			if s.below(2) > 0 && len(l) > 0 {
				table.Expire(l[s.below(len(l))].Id)
			} else if id, e := table.Open(); e == api.OK {
				if id != last+1 || id != next {
					t.Fatalf("the number %d is given after %d", id, last)
				}
				last = id
			}
			if s.below(10) == 0 {
				l, next = table.Seats()
				table = of(t, l, next)
			}
		}
	}
}

// P15.4: a request that is repeated gets the recorded reply, as often as it is repeated, until the session's next one is recorded.
func TestARepeatedRequest(t *testing.T) {
	table := New()
	for id := 1; id <= 8; id++ {
		table.Open()
	}
	for seq := 1; seq <= 40; seq++ {
		for id := 1; id <= 8; id++ {
			request := call{kind: ask, id: id, seq: seq}
			recorded := reply(100*id + seq)
			expect(t, table, request, answer{})
			expect(t, table, call{done, id, seq, recorded}, answer{})
			for range 2 {
				expect(t, table, request, answer{r: recorded, seen: true})
				refused(t, table, call{done, id, seq, reply(1)}, api.ErrOld)
			}
			for old := 1; old < seq; old++ {
				refused(t, table, call{kind: ask, id: id, seq: old}, api.ErrOld)
			}
		}
	}
}
