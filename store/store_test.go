package store

import (
	"bytes"
	"fmt"
	"math"
	"slices"
	"testing"

	"strongroom/api"
	"strongroom/drbg"
	"strongroom/wire"
)

// Commands of the kinds; what tells their session and request is laid into them by client.
var (
	openOne = api.Command{Kind: api.CmdOpen}
	create  = api.Command{Kind: api.CmdCreate}
)

func expire(id int) api.Command { return api.Command{Kind: api.CmdExpire, Id: id} }
func rotate(id int) api.Command { return api.Command{Kind: api.CmdRotate, Id: id} }
func turn(id, on int) api.Command {
	return api.Command{Kind: api.CmdSwitch, Id: id, N: on}
}
func destroy(id, version int) api.Command {
	return api.Command{Kind: api.CmdDestroy, Id: id, N: version}
}
func encrypt(id int, text, beside string) api.Command {
	return api.Command{Kind: api.CmdEncrypt, Id: id, Data: []byte(text), Beside: []byte(beside)}
}
func decrypt(blob []byte, beside string) api.Command {
	return api.Command{Kind: api.CmdDecrypt, Data: blob, Beside: []byte(beside)}
}
func rewrap(blob []byte, beside string) api.Command {
	return api.Command{Kind: api.CmdRewrap, Data: blob, Beside: []byte(beside)}
}
func reseed(b string) api.Command { return api.Command{Kind: api.CmdReseed, Data: []byte(b)} }

// of is the command as a request of a session.
func of(session, seq int, c api.Command) api.Command {
	c.Session, c.Seq = session, seq
	return c
}

// Replies, by what they tell.
func tells(n, m int, b []byte) api.Reply { return api.Reply{N: n, M: m, Bytes: b} }
func fails(e api.Errno) api.Reply        { return api.Reply{Code: e} }

var fine = api.Reply{}

// expect holds a reply to what is wanted, and all that the command did to the chapter's wording.
func expect(t *testing.T, p pair, c api.Command, want api.Reply) {
	t.Helper()
	got, difference := p.do(c)
	check(t, difference)
	if !sameReply(got, want) {
		t.Fatalf("%v is answered with %v, want %v", c, got, want)
	}
}

// refused expects an error, and that nothing changes, no session either.
func refused(t *testing.T, p pair, c api.Command, want api.Errno) {
	t.Helper()
	before := p.s.Encode()
	expect(t, p, c, fails(want))
	if !bytes.Equal(p.s.Encode(), before) {
		t.Fatalf("%v is refused with %d, but changes the store", c, want)
	}
}

// ask does the next request of the first session, and tells the reply.
func ask(t *testing.T, p pair, c api.Command) api.Reply {
	t.Helper()
	r, difference := p.do(next(p, c))
	check(t, difference)
	return r
}

// next is the command as the next request of the first session.
func next(p pair, c api.Command) api.Command {
	l, _ := p.s.Seats()
	return of(l[0].Id, l[0].Seq+1, c)
}

// asked expects the reply to the next request of the first session, that it is recorded, and that of all the rest only what the chapter says changes.
func asked(t *testing.T, p pair, c api.Command, want api.Reply) {
	t.Helper()
	c = next(p, c)
	expect(t, p, c, want)
	l, _ := p.s.Seats()
	if l[0].Seq != c.Seq || !sameReply(l[0].Last, want) {
		t.Fatalf("after %v the session is %v", c, l[0])
	}
}

// failed expects that a request has an error, which is recorded, and that nothing else changes.
func failed(t *testing.T, p pair, c api.Command, want api.Errno) {
	t.Helper()
	before := p.w.state()
	asked(t, p, c, fails(want))
	after := p.w.state()
	after.seats[0] = before.seats[0]
	if !bytes.Equal(after.encoding(), before.encoding()) {
		t.Fatalf("%v fails with %d, but changes more than the session", c, want)
	}
}

// used is a pair with a session, of whose requests so many are done.
func used(t *testing.T, seed string, l ...api.Command) pair {
	t.Helper()
	p := newPair(seed)
	expect(t, p, openOne, tells(1, 0, nil))
	for _, c := range l {
		if r := ask(t, p, c); r.Code != api.OK {
			t.Fatalf("%v is answered with %v", c, r)
		}
	}
	return p
}

// pairOf is a pair of a state.
func pairOf(t *testing.T, x state) pair {
	t.Helper()
	p, there, difference := decoded(x.encoding())
	check(t, difference)
	if !there {
		t.Fatalf("there is no store with %v", x)
	}
	return p
}

// drawn are the materials that a source draws one after the other.
func drawn(seed string, count int) []api.Key {
	s := drbg.New([]byte(seed))
	var l []api.Key
	for range count {
		b, _ := s.Draw(32, nil)
		l = append(l, api.Key(b))
	}
	return l
}

// P16.2: the chapter's examples.
func TestTheChaptersExamples(t *testing.T) {
	p := newPair("any")
	expect(t, p, openOne, tells(1, 0, nil))
	expect(t, p, of(1, 1, create), tells(1, 1, nil))
	expect(t, p, of(1, 1, create), tells(1, 1, nil))
	expect(t, p, of(1, 2, create), tells(2, 1, nil))

	p = used(t, "any", create, create)
	r, difference := p.do(of(1, 3, encrypt(1, "text", "")))
	check(t, difference)
	if r.Code != api.OK || r.N != 1 || r.M != 1 || len(r.Bytes) != 36 {
		t.Fatalf("the blob is in %v", r)
	}
	expect(t, p, of(1, 4, decrypt(r.Bytes, "")), tells(0, 0, []byte("text")))
	expect(t, p, of(1, 5, destroy(1, 1)), fine)
	expect(t, p, of(1, 6, decrypt(r.Bytes, "")), fails(api.ErrGone))
}

// P16.1 to P16.3: replies and encodings that another program worked out, with another implementation of each layer.
func TestWrittenDown(t *testing.T) {
	p := newPair("seed")
	encodes := func(digits string) {
		t.Helper()
		if got := p.s.Encode(); !bytes.Equal(got, bytesOf(t, digits)) {
			t.Errorf("the encoding is %x, want %s", got, digits)
		}
	}
	encodes("012084159e54fe3252aaba9b3a08f5c194da7ac39f75e09bec910e2b58431882c49501209170ccc5013346fef4ca56fd0617f4f88ff81474d92e97679f7a44f09a6797b2" +
		"0101" + "00" + "0101" + "00")
	first := bytesOf(t, "010101010000000000000000000000007b6648ac62ab0bec49d85720c4943988b2e92866")
	second := bytesOf(t, "0101010200000000000000000000000038cec201a1f7a3169aee660db1817f26")
	third := bytesOf(t, "010101020000000000000000000000017975fd52cb3755b38007c31a9d9ee777a90a5db2")
	expect(t, p, openOne, tells(1, 0, nil))
	expect(t, p, openOne, tells(2, 0, nil))
	expect(t, p, of(1, 1, create), tells(1, 1, nil))
	expect(t, p, of(1, 2, encrypt(1, "text", "b")), tells(1, 1, first))
	expect(t, p, of(2, 1, rotate(1)), tells(1, 2, nil))
	expect(t, p, of(2, 3, encrypt(1, "", "")), tells(1, 2, second))
	expect(t, p, of(1, 3, rewrap(first, "b")), tells(0, 2, third))
	encodes("01207645616e8a0223575423a60f638f077152b22b8b5ea31b6d254edd6854b52d7901209ca709eab4d06393f3974607fe8dde6aba8fc0233f5a663bc1ea3b022fa93378" +
		"0103" + "0101" +
		"000102" + "0120945418b8333283ae441104ff0af8ab77c755914dbcd4971f9db434098d72cc5f010100" + "0120fd5edd1dad14189f7d90a4f9be1be0a0f1e7b5c24d8d06cd74ad2fc03cd81749010200" +
		"0103" + "0102" +
		"01010103" + "00000102" + "0124010101020000000000000000000000017975fd52cb3755b38007c31a9d9ee777a90a5db2" +
		"01020103" + "0001010102" + "01200101010200000000000000000000000038cec201a1f7a3169aee660db1817f26")
	expect(t, p, of(1, 4, create), tells(2, 1, nil))
	expect(t, p, of(1, 5, turn(2, 0)), fine)
	expect(t, p, of(1, 6, encrypt(2, "", "")), fails(131))
	expect(t, p, of(2, 4, destroy(1, 1)), fine)
	expect(t, p, of(1, 7, decrypt(first, "b")), fails(132))
	expect(t, p, of(2, 300, reseed("x")), fine)
	expect(t, p, of(1, 8, rotate(2)), tells(2, 2, nil))
	last := bytesOf(t, "01010102000000000000000000000002daa943d61e2dbee0173dd9258f6ce4151ff0ce7c")
	expect(t, p, of(1, 9, encrypt(1, "last", "")), tells(1, 2, last))
	expect(t, p, expire(2), fine)
	expect(t, p, openOne, tells(3, 0, nil))
	encodes("01208e2b9cc8ae2f739bcbbebc78af3d2c33d2d0525ca019b566057b821d9d08d7480120e821d44131f48821b47855c13318e4c53376e933de8b869870e229ad0648624e" +
		"0102" + "0102" +
		"000102" + "01200000000000000000000000000000000000000000000000000000000000000000" + "01010101" + "0120fd5edd1dad14189f7d90a4f9be1be0a0f1e7b5c24d8d06cd74ad2fc03cd81749010300" +
		"01010102" + "0120219f0f74461ab47a757ff110f8bda612423e0b51071d8955f755717176e446ef0000" + "01206dc9ed1bc0debda8b168568364bdd7ea14d3aef4d6e6041c38a45fb4e60176750000" +
		"0104" + "0102" +
		"01010109" + "0001010102" + "012401010102000000000000000000000002daa943d61e2dbee0173dd9258f6ce4151ff0ce7c" +
		"01030000000000")
}

// P16.1: a new store has no keys and no sessions, whatever other stores have, and the source of its seed.
func TestNew(t *testing.T) {
	other := used(t, "seed", create, rotate(1))
	seen := map[string]bool{}
	for _, seed := range []string{"", "seed", "sees", "seed\x00", "\x00", string(make([]byte, 32)), string(make([]byte, 1000))} {
		p := newPair(seed)
		check(t, p.differ("New"))
		rings := p.s.Rings()
		seats, next := p.s.Seats()
		if len(rings) != 0 || len(seats) != 0 || next != 1 {
			t.Errorf("New(%q) has keys %v, sessions %v and the next number %d", seed, rings, seats, next)
		}
		if seen[string(p.s.Encode())] {
			t.Errorf("New(%q) is as with another seed", seed)
		}
		seen[string(p.s.Encode())] = true
		expect(t, p, openOne, tells(1, 0, nil))
		asked(t, p, create, tells(1, 1, nil))
		if m := p.s.Rings()[0].L[0].Material; m != drawn(seed, 1)[0] {
			t.Errorf("the first key of New(%q) is %x", seed, m)
		}
	}
	if New(nil).Apply(openOne).N != 1 || !bytes.Equal(New(nil).Encode(), New([]byte{}).Encode()) {
		t.Error("New of no seed is not as with an empty one")
	}
	check(t, other.differ("New of others"))
}

// The zero value isn't made by New; but it must not panic either (rule R1).
func TestZeroValue(t *testing.T) {
	s := new(Store)
	if r := s.Apply(openOne); !sameReply(r, tells(1, 0, nil)) {
		t.Errorf("it is answered with %v", r)
	}
	for i, c := range []api.Command{create, rotate(1), turn(1, 1), encrypt(1, "", ""), decrypt(nil, ""), rewrap(nil, ""), destroy(1, 1), reseed("x"), create} {
		s.Apply(of(1, i+1, c))
	}
	s = new(Store)
	l, next := s.Seats()
	if len(s.Rings()) != 0 || len(l) != 0 || next != 1 || len(s.Encode()) == 0 || s.Clone() == nil {
		t.Error("it has keys or sessions, or no encoding or clone")
	}
}

// valid are commands of each kind that wire.Check takes.
func valid() []api.Command {
	blob := []byte("a blob, or not")
	return []api.Command{
		openOne, expire(1), of(1, 9, create), of(1, 9, rotate(1)), of(1, 9, turn(1, 1)), of(1, 9, destroy(1, 1)),
		of(1, 9, encrypt(1, "text", "b")), of(1, 9, decrypt(blob, "b")), of(1, 9, rewrap(blob, "b")), of(1, 9, reseed("x")),
	}
}

// P16.2: a command that is not valid is refused, and changes nothing, whatever its session is.
func TestCommandsThatAreNotValid(t *testing.T) {
	p := used(t, "seed", create, rotate(1))
	numbers := []int{0, -1, 1, 2, 1<<40 + 1, math.MaxInt, math.MinInt}
	refusals := 0
	try := func(c api.Command) {
		if wire.Check(c) == api.ErrArg {
			refused(t, p, c, api.ErrArg)
			refusals++
		}
	}
	for _, c := range valid() {
		if wire.Check(c) != api.OK {
			t.Fatalf("%v is not valid", c)
		}
		for _, place := range []*int{&c.Kind, &c.Session, &c.Seq, &c.Id, &c.N} {
			was := *place
			for _, n := range append(numbers, 11, 255, 256) {
				*place = n
				try(c)
			}
			*place = was
		}
		for _, place := range []*[]byte{&c.Data, &c.Beside} {
			was := *place
			for _, size := range []int{0, 1, 32, 33, 64, 65, 128, 129, 4097} {
				*place = make([]byte, size)
				try(c)
			}
			*place = was
		}
	}
	if refusals < 300 {
		t.Errorf("only %d were tried", refusals)
	}
	refused(t, p, api.Command{}, api.ErrArg)
	refused(t, p, create, api.ErrArg)
	refused(t, p, of(1, 0, create), api.ErrArg)
	refused(t, p, of(77, 1, turn(0, 1)), api.ErrArg)
	refused(t, p, of(1, 2, rotate(0)), api.ErrArg)
}

// P16.2: sessions are opened and expire; both need no session, and are not requests of one.
func TestOpenAndExpire(t *testing.T) {
	p := newPair("seed")
	refused(t, p, expire(1), api.ErrSession)
	for n := 1; n <= 8; n++ {
		expect(t, p, openOne, tells(n, 0, nil))
	}
	for range 3 {
		refused(t, p, openOne, api.ErrFull)
	}
	expect(t, p, of(3, 1, create), tells(1, 1, nil))
	expect(t, p, expire(3), fine)
	refused(t, p, expire(3), api.ErrSession)
	refused(t, p, of(3, 1, create), api.ErrSession)
	refused(t, p, of(3, 2, create), api.ErrSession)
	expect(t, p, openOne, tells(9, 0, nil))
	expect(t, p, of(9, 1, create), tells(2, 1, nil))
	for _, id := range []int{3, 10, 255, 1 << 40} {
		refused(t, p, expire(id), api.ErrSession)
	}
	for _, id := range []int{9, 1, 8, 2, 7, 4, 6, 5} {
		expect(t, p, expire(id), fine)
		refused(t, p, expire(id), api.ErrSession)
	}
	if len(p.s.Rings()) != 2 {
		t.Error("keys left with the sessions that asked for them")
	}
}

// P16.2: the numbers of sessions end below the greatest index.
func TestTheLastSessions(t *testing.T) {
	x := newWording(nil).state()
	x.next = 1<<40 - 1
	p := pairOf(t, x)
	expect(t, p, openOne, tells(1<<40-1, 0, nil))
	refused(t, p, openOne, api.ErrFull)
	expect(t, p, of(1<<40-1, 1<<40, create), tells(1, 1, nil))
	expect(t, p, of(1<<40-1, 1<<40, create), tells(1, 1, nil))
	refused(t, p, of(1<<40-1, 1<<40-1, create), api.ErrOld)
	refused(t, p, of(1<<40, 1, create), api.ErrSession)
}

// P16.2: there is no such session, whatever it asks for.
func TestThereIsNoSuchSession(t *testing.T) {
	p := used(t, "seed", create)
	expect(t, p, openOne, tells(2, 0, nil))
	expect(t, p, openOne, tells(3, 0, nil))
	expect(t, p, expire(2), fine)
	for _, c := range valid()[2:] {
		for _, id := range []int{2, 4, 255, 1 << 40} {
			for _, seq := range []int{1, 2, 1 << 40} {
				refused(t, p, of(id, seq, c), api.ErrSession)
			}
		}
	}
}

// P16.2: an old request is refused, whatever it asks for, even what it was answered with long ago.
func TestOldRequests(t *testing.T) {
	p := used(t, "seed", create, create, rotate(1))
	expect(t, p, of(1, 20, rotate(2)), tells(2, 2, nil))
	for _, c := range valid()[2:] {
		for _, seq := range []int{1, 2, 3, 4, 19} {
			refused(t, p, of(1, seq, c), api.ErrOld)
		}
	}
	expect(t, p, of(1, 20, rotate(2)), tells(2, 2, nil))
	expect(t, p, of(1, 21, rotate(2)), tells(2, 3, nil))
}

// P16.2, P16.4: a request that is repeated receives the same reply and changes nothing, whatever it asks for now.
func TestRepeatedRequests(t *testing.T) {
	blob := blobOf(t, "seed")
	for _, c := range []api.Command{
		create, rotate(1), rotate(9), turn(1, 0), turn(9, 1), destroy(1, 1), destroy(1, 2), encrypt(1, "text", "b"), encrypt(2, "", ""),
		decrypt(blob, "b"), decrypt(blob, ""), rewrap(blob, "b"), rewrap(nil, "b"), reseed("x"),
	} {
		p := used(t, "seed", create)
		r := ask(t, p, c)
		before := p.s.Encode()
		for range 3 {
			expect(t, p, of(1, 2, c), r)
		}
		for _, other := range valid()[2:] {
			expect(t, p, of(1, 2, other), r)
		}
		if !bytes.Equal(p.s.Encode(), before) {
			t.Errorf("%v changes the store when it is repeated", c)
		}
	}
}

// blobOf is the blob of "text", beside "b", by the first key of a seed.
func blobOf(t *testing.T, seed string) []byte {
	t.Helper()
	return ask(t, used(t, seed, create), encrypt(1, "text", "b")).Bytes
}

// P16.2: an error is recorded; the request doesn't succeed when it is repeated, though it would by now.
func TestErrorsAreRecorded(t *testing.T) {
	p := used(t, "seed")
	expect(t, p, openOne, tells(2, 0, nil))
	blob := blobOf(t, "seed")
	for i, step := range []struct {
		early, first api.Command
		e            api.Errno
	}{
		{rotate(1), create, api.ErrNoKey},
		{turn(2, 1), create, api.ErrNoKey},
		{destroy(1, 2), rotate(1), api.ErrNoKey},
		{encrypt(3, "", ""), create, api.ErrNoKey},
	} {
		staysFailed(t, p, i, step.early, step.first, step.e)
	}
	p = used(t, "other")
	expect(t, p, openOne, tells(2, 0, nil))
	staysFailed(t, p, 0, decrypt(blob, "b"), create, api.ErrNoKey)
	staysFailed(t, p, 1, rewrap(blob, ""), create, api.ErrForged)
	p = pairOf(t, tired(api.MaxDraws+1))
	expect(t, p, openOne, tells(2, 0, nil))
	staysFailed(t, p, 0, create, reseed("x"), api.ErrSeed)
}

// staysFailed expects an error of a request of the second session, again after the first session did what was in its way.
func staysFailed(t *testing.T, p pair, i int, early, first api.Command, e api.Errno) {
	t.Helper()
	expect(t, p, of(2, i+1, early), fails(e))
	expect(t, p, of(2, i+1, early), fails(e))
	if r := ask(t, p, first); r.Code != api.OK {
		t.Fatalf("%v is answered with %v", first, r)
	}
	refused(t, p, of(2, i+1, early), e)
}

// tired is a state with a session, and a source with the counter.
func tired(count int) state {
	w := newWording([]byte("seed"))
	w.apply(openOne)
	x := w.state()
	x.count = count
	return x
}

// P16.2: each session has requests of its own.
func TestSessionsAreApart(t *testing.T) {
	p := newPair("seed")
	for n := 1; n <= 3; n++ {
		expect(t, p, openOne, tells(n, 0, nil))
	}
	expect(t, p, of(2, 1, create), tells(1, 1, nil))
	expect(t, p, of(1, 1, create), tells(2, 1, nil))
	expect(t, p, of(3, 5, create), tells(3, 1, nil))
	expect(t, p, of(2, 1, create), tells(1, 1, nil))
	expect(t, p, of(1, 5, rotate(1)), tells(1, 2, nil))
	expect(t, p, of(3, 5, create), tells(3, 1, nil))
	refused(t, p, of(1, 1, create), api.ErrOld)
	expect(t, p, of(2, 1, create), tells(1, 1, nil))
}

// P16.2: keys and versions get what the source draws, one after the other.
func TestCreateAndRotate(t *testing.T) {
	p := used(t, "seed")
	var want []api.Ring
	m := drawn("seed", 32)
	for id := 1; id <= 8; id++ {
		asked(t, p, create, tells(id, 1, nil))
		want = append(want, api.Ring{L: []api.Version{{Material: m[id-1]}}})
	}
	for version := 2; version <= 4; version++ {
		for id := 1; id <= 8; id++ {
			asked(t, p, rotate(id), tells(id, version, nil))
			want[id-1].L = append(want[id-1].L, api.Version{Material: m[(version-1)*8+id-1]})
		}
	}
	if got := p.s.Rings(); !sameRings(got, want) {
		t.Errorf("Rings are %v, want %v", got, want)
	}
}

// drew expects that a request has an error, which is recorded, and that 32 bytes were drawn nevertheless, and nothing else changed.
func drew(t *testing.T, p pair, c api.Command, want api.Errno) {
	t.Helper()
	x := p.w.state()
	s := drbg.Of(x.key, x.v, x.count)
	s.Draw(32, nil)
	x.key, x.v, x.count = s.State()
	x.seats[0].Seq++
	x.seats[0].Last = fails(want)
	asked(t, p, c, fails(want))
	if !bytes.Equal(p.s.Encode(), x.encoding()) {
		t.Fatalf("%v fails with %d, but the encoding is %x, want %x", c, want, p.s.Encode(), x.encoding())
	}
}

// P16.2: the bytes are drawn first, so that they are gone even if there is no room for the key or the version, or no such key.
func TestErrorsOfCreateAndRotate(t *testing.T) {
	p := used(t, "seed", create, rotate(1), rotate(1), rotate(1))
	drew(t, p, rotate(1), api.ErrFull)
	for _, id := range []int{2, 3, 8, 9, 256, 1 << 40} {
		drew(t, p, rotate(id), api.ErrNoKey)
	}
	for id := 2; id <= 8; id++ {
		asked(t, p, create, tells(id, 1, nil))
	}
	if m := p.s.Rings()[1].L[0].Material; m != drawn("seed", 12)[11] {
		t.Errorf("what was drawn for a version that did not come about is drawn again: %x", m)
	}
	for range 3 {
		drew(t, p, create, api.ErrFull)
	}
	drew(t, p, rotate(9), api.ErrNoKey)
	asked(t, p, rotate(8), tells(8, 2, nil))
}

// P16.2: a source without a seed draws nothing; that comes ahead of what is wrong with the key.
func TestNoSeed(t *testing.T) {
	for _, count := range []int{1<<20 + 1, 1 << 40, math.MaxInt} {
		p := pairOf(t, tired(count))
		failed(t, p, create, api.ErrSeed)
		failed(t, p, rotate(1), api.ErrSeed)
		asked(t, p, reseed("more"), fine)
		asked(t, p, create, tells(1, 1, nil))
		asked(t, p, rotate(1), tells(1, 2, nil))
	}
	x := tired(1<<20 + 1)
	for range 8 {
		x.rings = append(x.rings, api.Ring{L: make([]api.Version, 4)})
	}
	p := pairOf(t, x)
	failed(t, p, create, api.ErrSeed)
	failed(t, p, rotate(8), api.ErrSeed)
	failed(t, p, rotate(9), api.ErrSeed)
	asked(t, p, turn(8, 0), fine)
	asked(t, p, encrypt(1, "", ""), tells(1, 4, ask(t, p.clone(), encrypt(1, "", "")).Bytes))
}

// P16.2: the last draw of a seed.
func TestTheLastDraw(t *testing.T) {
	p := pairOf(t, tired(1<<20-1))
	asked(t, p, create, tells(1, 1, nil))
	asked(t, p, rotate(1), tells(1, 2, nil))
	failed(t, p, rotate(1), api.ErrSeed)
	failed(t, p, create, api.ErrSeed)
	asked(t, p, reseed("x"), fine)
	asked(t, p, create, tells(2, 1, nil))
}

// P16.2: CmdReseed is drbg.Reseed with the bytes, of each length.
func TestReseed(t *testing.T) {
	s := source(16)
	for size := 1; size <= 64; size++ {
		p := used(t, "seed", create)
		more := s.bytes(size)
		x := p.w.state()
		want := drbg.Of(x.key, x.v, x.count)
		want.Reseed(more)
		x.key, x.v, x.count = want.State()
		x.seats[0].Seq++
		x.seats[0].Last = fine
		asked(t, p, reseed(string(more)), fine)
		if x.count != 1 || !bytes.Equal(p.s.Encode(), x.encoding()) {
			t.Fatalf("after reseeding with %x the encoding is %x, want %x", more, p.s.Encode(), x.encoding())
		}
		asked(t, p, rotate(1), tells(1, 2, nil))
	}
}

// P16.2: CmdSwitch switches a key on if N is 1, and otherwise off.
func TestSwitch(t *testing.T) {
	p := used(t, "seed", create, create, create)
	off := func(want ...bool) {
		t.Helper()
		for i, r := range p.s.Rings() {
			if r.Off != want[i] {
				t.Fatalf("Rings are %v, want off %v", p.s.Rings(), want)
			}
		}
	}
	off(false, false, false)
	for range 2 {
		asked(t, p, turn(2, 0), fine)
		off(false, true, false)
	}
	asked(t, p, turn(3, 0), fine)
	off(false, true, true)
	for range 2 {
		asked(t, p, turn(2, 1), fine)
		off(false, false, true)
	}
	for _, id := range []int{4, 5, 8, 256, 1 << 40} {
		failed(t, p, turn(id, 0), api.ErrNoKey)
		failed(t, p, turn(id, 1), api.ErrNoKey)
	}
}

// P16.2: CmdDestroy destroys the version N of a key, once.
func TestDestroy(t *testing.T) {
	p := used(t, "seed", create, rotate(1), rotate(1), create, encrypt(1, "", ""))
	want := p.s.Rings()
	for _, version := range []int{2, 1, 3} {
		asked(t, p, destroy(1, version), fine)
		want[0].L[version-1] = api.Version{Uses: want[0].L[version-1].Uses, Gone: true}
		if got := p.s.Rings(); !sameRings(got, want) {
			t.Fatalf("Rings are %v, want %v", got, want)
		}
		failed(t, p, destroy(1, version), api.ErrGone)
	}
	for _, version := range []int{4, 5, 256, 1<<40 + 1, math.MaxInt} {
		failed(t, p, destroy(1, version), api.ErrNoKey)
	}
	failed(t, p, destroy(2, 2), api.ErrNoKey)
	failed(t, p, destroy(3, 1), api.ErrNoKey)
	failed(t, p, destroy(1<<40, 1), api.ErrNoKey)
	asked(t, p, turn(2, 0), fine)
	asked(t, p, destroy(2, 1), fine)
}

// P16.2: CmdEncrypt tells the key, the version and the blob; each use is counted.
func TestEncrypt(t *testing.T) {
	p := used(t, "seed", create, create, rotate(2), rotate(2))
	for use := range 16 {
		text := string(make([]byte, 4*use+4))
		r := ask(t, p, encrypt(2, text, text[:2*use+2]))
		if r.Code != api.OK || r.N != 2 || r.M != 3 || len(r.Bytes) != 32+len(text) {
			t.Fatalf("use %d is answered with %v", use, r)
		}
		if l := p.s.Rings()[1].L; l[2].Uses != use+1 || l[0].Uses+l[1].Uses != 0 {
			t.Fatalf("after use %d the versions are %v", use, l)
		}
		asked(t, p, decrypt(r.Bytes, text[:2*use+2]), tells(0, 0, []byte(text)))
	}
	failed(t, p, encrypt(2, "", ""), api.ErrUsed)
	for _, id := range []int{3, 4, 8, 256, 1 << 40} {
		failed(t, p, encrypt(id, "", ""), api.ErrNoKey)
	}
	asked(t, p, turn(1, 0), fine)
	failed(t, p, encrypt(1, "", ""), api.ErrOff)
	asked(t, p, destroy(2, 3), fine)
	failed(t, p, encrypt(2, "", ""), api.ErrGone)
	asked(t, p, rotate(2), tells(2, 4, nil))
	if r := ask(t, p, encrypt(2, "", "")); r.Code != api.OK || r.M != 4 {
		t.Errorf("the new version answers %v", r)
	}
}

// P16.2: CmdDecrypt tells the text alone, by each version that there still is.
func TestDecrypt(t *testing.T) {
	p := used(t, "seed", create, create, create)
	first := ask(t, p, encrypt(1, "first", "b")).Bytes
	empty := ask(t, p, encrypt(1, "", "")).Bytes
	asked(t, p, rotate(1), tells(1, 2, nil))
	second := ask(t, p, encrypt(1, "second", "")).Bytes
	asked(t, p, decrypt(first, "b"), tells(0, 0, []byte("first")))
	asked(t, p, decrypt(second, ""), tells(0, 0, []byte("second")))
	asked(t, p, decrypt(empty, ""), fine)

	failed(t, p, decrypt(nil, ""), api.ErrBlob)
	failed(t, p, decrypt(first[:31], "b"), api.ErrBlob)
	failed(t, p, decrypt(make([]byte, 128), ""), api.ErrBlob)
	failed(t, p, decrypt(first, ""), api.ErrForged)
	failed(t, p, decrypt(append(bytes.Clone(first), 0), "b"), api.ErrForged)
	failed(t, p, decrypt(with(first, 1, 4), "b"), api.ErrNoKey)
	failed(t, p, decrypt(with(first, 3, 3), "b"), api.ErrNoKey)
	failed(t, p, decrypt(with(first, 1, 2), "b"), api.ErrForged)
	asked(t, p, destroy(1, 1), fine)
	failed(t, p, decrypt(first, "b"), api.ErrGone)
	asked(t, p, turn(1, 0), fine)
	failed(t, p, decrypt(first, "b"), api.ErrOff)
	failed(t, p, decrypt(second, ""), api.ErrOff)
	asked(t, p, turn(1, 1), fine)
	asked(t, p, decrypt(second, ""), tells(0, 0, []byte("second")))
}

// with is b with another byte at a place.
func with(b []byte, place int, value byte) []byte {
	b = bytes.Clone(b)
	b[place] = value
	return b
}

// P16.2: CmdRewrap tells the version and the blob, of the blob's own key.
func TestRewrap(t *testing.T) {
	p := used(t, "seed", create, create, rotate(2))
	old := ask(t, p, encrypt(2, "text", "b")).Bytes
	asked(t, p, rotate(2), tells(2, 3, nil))
	for use := range 16 {
		r := ask(t, p, rewrap(old, "b"))
		if r.Code != api.OK || r.N != 0 || r.M != 3 || len(r.Bytes) != 36 || p.s.Rings()[1].L[2].Uses != use+1 {
			t.Fatalf("use %d is answered with %v", use, r)
		}
		asked(t, p, decrypt(r.Bytes, "b"), tells(0, 0, []byte("text")))
	}
	failed(t, p, rewrap(old, "b"), api.ErrUsed)
	failed(t, p, rewrap(nil, ""), api.ErrBlob)
	failed(t, p, rewrap(old, ""), api.ErrForged)
	failed(t, p, rewrap(with(old, 1, 3), "b"), api.ErrNoKey)
	asked(t, p, turn(2, 0), fine)
	failed(t, p, rewrap(old, "b"), api.ErrOff)
	asked(t, p, turn(2, 1), fine)
	asked(t, p, destroy(2, 3), fine)
	failed(t, p, rewrap(old, "b"), api.ErrGone)
	asked(t, p, rotate(2), tells(2, 4, nil))
	asked(t, p, destroy(2, 2), fine)
	failed(t, p, rewrap(old, "b"), api.ErrGone)
}

// P16.2: the longest texts and the longest blobs.
func TestTheLongest(t *testing.T) {
	p := used(t, "seed", create)
	s := source(1)
	text, beside := string(s.bytes(64)), string(s.bytes(32))
	r := ask(t, p, encrypt(1, text, beside))
	if r.Code != api.OK || len(r.Bytes) != 96 {
		t.Fatalf("it is answered with %v", r)
	}
	asked(t, p, decrypt(r.Bytes, beside), tells(0, 0, []byte(text)))
	w := ask(t, p, rewrap(r.Bytes, beside))
	asked(t, p, decrypt(w.Bytes, beside), tells(0, 0, []byte(text)))
	refused(t, p, of(1, 99, encrypt(1, text+"x", beside)), api.ErrArg)
	refused(t, p, of(1, 99, decrypt(r.Bytes, beside+"x")), api.ErrArg)
}

// steps are commands of two sessions that stand in each other's way.
func steps(t *testing.T) []api.Command {
	blob := blobOf(t, "seed")
	return []api.Command{
		openOne, expire(1), {Kind: 11}, of(1, 1, create), of(1, 2, create), of(2, 1, create), of(1, 2, rotate(1)), of(1, 3, rotate(2)),
		of(1, 3, turn(1, 0)), of(1, 4, turn(1, 1)), of(1, 4, destroy(1, 1)), of(2, 2, destroy(1, 2)), of(1, 5, encrypt(1, "text", "b")),
		of(1, 5, encrypt(2, "", "")), of(1, 6, decrypt(blob, "b")), of(1, 5, rewrap(blob, "b")), of(2, 3, rewrap(blob, "")), of(1, 7, reseed("x")),
	}
}

// P16.2, P16.3: whatever three commands follow each other, in a new store or in one with a key, each does what the chapter says.
func TestAllShortSequences(t *testing.T) {
	all := steps(t)
	var follow func(p pair, left int)
	follow = func(p pair, left int) {
		for _, c := range all {
			q := p.clone()
			_, difference := q.do(c)
			check(t, difference, p.differ("a command of its clone"))
			if left > 1 {
				follow(q, left-1)
			}
		}
	}
	follow(newPair("seed"), 2)
	follow(used(t, "seed"), 2)
	follow(used(t, "seed", create), 3)
}

// walk is a way of a store, with blobs that were made on it.
type walk struct {
	source
	blobs []made
}

// made is a blob, and the bytes beside it.
type made struct {
	blob   []byte
	beside string
}

// P16.2 to P16.4: on long ways of some stores, their clones and what Decode makes of their encodings, each command does what the chapter says.
func TestLongWays(t *testing.T) {
	w := walk{source: 16}
	codes := map[api.Errno]int{}
	for range 24 {
		pairs := []pair{newPair("a way")}
		for step := range 160 {
			i := w.below(len(pairs))
			switch {
			case step < 3:
				_, difference := pairs[0].do(openOne)
				check(t, difference)
			case w.below(25) > 0:
				r, difference := pairs[i].do(w.command(pairs[i]))
				check(t, difference)
				codes[r.Code]++
			case w.below(2) > 0:
				p, difference := pairs[i].restored()
				check(t, difference)
				pairs[i] = p
			case len(pairs) < 3:
				pairs = append(pairs, pairs[i].clone())
			}
			for _, p := range pairs {
				check(t, p.differ(fmt.Sprintf("step %d of a way", step)))
			}
		}
	}
	for _, e := range []api.Errno{0, 1, 40, 130, 131, 132, 133, 134, 140, 150, 151} {
		if codes[e] == 0 {
			t.Errorf("no command was answered with %d", e)
		}
	}
}

// command is one that has to do with what the store is, more often than not.
func (w *walk) command(p pair) api.Command {
	l, last := p.s.Seats()
	if len(l) == 0 || w.below(20) == 0 {
		return []api.Command{openOne, expire(1 + w.below(last)), {Kind: w.below(13)}}[w.below(3)]
	}
	seat := l[w.below(len(l))]
	seq := seat.Seq + 1
	if w.below(6) == 0 {
		seq = seat.Seq + w.below(5) - 2
	}
	c := of(seat.Id, seq, w.request(len(p.s.Rings())))
	if c.Kind == api.CmdEncrypt {
		if r := p.s.Clone().Apply(c); len(r.Bytes) > 0 {
			w.blobs = append(w.blobs, made{r.Bytes, string(c.Beside)})
		}
	}
	return c
}

// request is one without a session, where there are so many keys.
func (w *walk) request(keys int) api.Command {
	id := 1 + w.below(keys+1)
	switch w.below(12) {
	case 0:
		return create
	case 1:
		return rotate(id)
	case 2:
		return turn(id, min(1, w.below(4)))
	case 3:
		return destroy(id, 1+w.below(5))
	case 4:
		return reseed(string(w.bytes(1 + w.below(64))))
	case 5, 6, 7:
		return encrypt(min(id, 1+w.below(2)), string(w.bytes(w.below(65))), string(w.bytes(w.below(33))))
	case 8:
		return decrypt(w.bytes(w.below(129)), "")
	}
	if len(w.blobs) == 0 {
		return create
	}
	m := w.blobs[w.below(len(w.blobs))]
	if w.below(5) == 0 {
		m.beside = "other"
	}
	if w.below(2) == 0 {
		return decrypt(m.blob, m.beside)
	}
	return rewrap(m.blob, m.beside)
}

// P16.2, theorem T4: no two blobs of a store have the same version and nonce, however they come about.
func TestNonces(t *testing.T) {
	p := used(t, "seed", create, create)
	seen := map[string]bool{}
	note := func(r api.Reply) {
		t.Helper()
		if r.Code != api.OK || seen[string(r.Bytes[:16])] {
			t.Fatalf("the blob of %v has the nonce of another one, or there is none", r)
		}
		seen[string(r.Bytes[:16])] = true
	}
	for round := range 3 {
		for id := 1; id <= 2; id++ {
			for range 8 {
				r := ask(t, p, encrypt(id, "same", ""))
				note(r)
				note(ask(t, p, rewrap(r.Bytes, "")))
			}
			failed(t, p, encrypt(id, "same", ""), api.ErrUsed)
			asked(t, p, rotate(id), tells(id, round+2, nil))
		}
	}
}

// roomy is b ahead of other bytes in one memory, so that what is behind b can be looked at.
func roomy(b []byte) (front, whole []byte) {
	whole = append(bytes.Clone(b), []byte("behind the bytes that are given")...)
	return whole[:len(b)], whole
}

// Rule R7: Apply, New and Decode neither change what they are given, nor keep it.
func TestArgumentsAreLeftAlone(t *testing.T) {
	seed, wholeSeed := roomy([]byte("seed"))
	p := pair{New(seed), newWording([]byte("seed"))}
	untouched(t, "New", wholeSeed, []byte("seed"))
	check(t, p.differ("New, whose seed is spoilt"))
	expect(t, p, openOne, tells(1, 0, nil))
	asked(t, p, create, tells(1, 1, nil))
	blob := blobOf(t, "seed")
	for _, c := range []api.Command{encrypt(1, "text", "b"), decrypt(blob, "b"), rewrap(blob, "b"), reseed("x"), decrypt(blob, "c")} {
		c = next(p, c)
		given := c
		var wholeData, wholeBeside []byte
		given.Data, wholeData = roomy(c.Data)
		given.Beside, wholeBeside = roomy(c.Beside)
		got, want := p.s.Apply(given), p.w.apply(c)
		if !sameReply(got, want) {
			t.Errorf("%v is answered with %v, want %v", c, got, want)
		}
		untouched(t, fmt.Sprint(c), wholeData, c.Data)
		untouched(t, fmt.Sprint(c), wholeBeside, c.Beside)
		check(t, p.differ("a command, whose bytes are spoilt"))
		if !sameReply(got, want) {
			t.Errorf("the reply to %v hangs on what was given", c)
		}
	}
	code, wholeCode := roomy(p.s.Encode())
	was := bytes.Clone(code)
	s, _ := Decode(code)
	untouched(t, "Decode", wholeCode, was)
	check(t, pair{s, p.w}.differ("Decode, whose bytes are spoilt"))
}

// untouched expects that the memory is still what roomy made, and then spoils it.
func untouched(t *testing.T, what string, whole, was []byte) {
	t.Helper()
	if _, want := roomy(was); !bytes.Equal(whole, want) {
		t.Errorf("%s changes what it is given", what)
	}
	spoil(whole)
}

func spoil(b []byte) {
	b = b[:cap(b)]
	for i := range b {
		b[i] ^= 0xff
	}
}

// Rule R7: what a store tells belongs to the caller.
func TestResultsAreTheCallers(t *testing.T) {
	p := used(t, "seed", create, rotate(1), create)
	for _, c := range []api.Command{encrypt(1, "text", "b"), rewrap(blobOf(t, "seed"), "b"), decrypt(blobOf(t, "seed"), "b")} {
		c = next(p, c)
		for range 2 {
			want := p.w.apply(c)
			r := p.s.Apply(c)
			if !sameReply(r, want) {
				t.Fatalf("%v is answered with %v, want %v", c, r, want)
			}
			spoil(r.Bytes)
			check(t, p.differ("spoiling a reply"))
		}
	}
	rings := p.s.Rings()
	for i := range rings {
		l := rings[i].L[:cap(rings[i].L)]
		for j := range l {
			l[j] = api.Version{Uses: 77}
		}
		rings[i] = api.Ring{Off: true}
	}
	seats, _ := p.s.Seats()
	for i := range seats {
		spoil(seats[i].Last.Bytes)
		seats[i] = api.Seat{Id: 77}
	}
	spoil(p.s.Encode())
	check(t, p.differ("spoiling what it tells"))
}

// Rule R7: what a store told stays as it is, whatever happens to the store.
func TestResultsStay(t *testing.T) {
	p := used(t, "seed", create, rotate(1))
	c := next(p, encrypt(1, "text", "b"))
	r := p.s.Apply(c)
	again := p.s.Apply(c)
	p.w.apply(c)
	rings, code := p.s.Rings(), p.s.Encode()
	seats, _ := p.s.Seats()
	x := p.w.state()
	wantCode, wantReply := x.encoding(), api.Reply{N: 1, M: 2, Bytes: bytes.Clone(r.Bytes)}
	for _, c := range []api.Command{create, rotate(1), destroy(1, 2), turn(1, 0), encrypt(1, "other", ""), reseed("x")} {
		ask(t, p, c)
	}
	expect(t, p, expire(1), fine)
	if !sameRings(rings, x.rings) || !sameSeats(seats, x.seats) || !bytes.Equal(code, wantCode) {
		t.Error("what was told has changed")
	}
	if !sameReply(r, wantReply) || !sameReply(again, wantReply) {
		t.Errorf("the replies have become %v and %v", r, again)
	}
}

// P16.3, rule R7: a clone goes its own way, and so does what it was made of.
func TestClone(t *testing.T) {
	blob := blobOf(t, "seed")
	for _, c := range append(valid()[1:], of(1, 9, decrypt(blob, "b")), of(1, 9, rewrap(blob, "b")), openOne) {
		p := used(t, "seed", create, encrypt(1, "text", "b"))
		q := p.clone()
		check(t, q.differ("Clone"))
		_, difference := q.do(c)
		check(t, difference, p.differ("a command of its clone"))
		r := p.clone()
		_, difference = p.do(c)
		check(t, difference, q.differ("a command"), r.differ("a command"))
		if _, difference := r.do(of(1, 10, create)); difference != nil {
			t.Fatal(difference)
		}
		check(t, p.differ("a command of a clone"), q.differ("a command of another clone"))
	}
}

// P16.4: what Decode makes of an encoding behaves like the original, and so does a clone.
func TestTheSameWay(t *testing.T) {
	w := walk{source: 4}
	for range 6 {
		p := used(t, "way", create, create)
		for range 40 {
			check(t, second(p.do(w.command(p))))
		}
		q, difference := p.restored()
		check(t, difference)
		r := p.clone()
		for range 60 {
			c := w.command(p)
			a, b, d := p.s.Apply(c), q.s.Apply(c), r.s.Apply(c)
			if !sameReply(a, b) || !sameReply(a, d) {
				t.Fatalf("%v is answered with %v, of what was decoded with %v, of the clone with %v", c, a, b, d)
			}
			if !bytes.Equal(p.s.Encode(), q.s.Encode()) || !bytes.Equal(p.s.Encode(), r.s.Encode()) {
				t.Fatalf("after %v the stores differ", c)
			}
		}
	}
}

func second(_ api.Reply, difference error) error { return difference }

// P16.3: Rings and Seats tell all keys and sessions in the order of their numbers.
func TestRingsAndSeats(t *testing.T) {
	x := many()
	p := pairOf(t, x)
	if got := p.s.Rings(); !sameRings(got, x.rings) {
		t.Errorf("Rings are %v, want %v", got, x.rings)
	}
	if got, next := p.s.Seats(); !sameSeats(got, x.seats) || next != x.next {
		t.Errorf("Seats are %v and %d, want %v and %d", got, next, x.seats, x.next)
	}
	if !slices.IsSortedFunc(x.seats, func(a, b api.Seat) int { return a.Id - b.Id }) {
		t.Error("the sessions are not in order")
	}
}
