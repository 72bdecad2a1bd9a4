package store

import (
	"bytes"
	"encoding/hex"
	"fmt"
	"math"
	"math/big"
	"slices"
	"testing"

	"strongroom/api"
	"strongroom/drbg"
	"strongroom/envelope"
	"strongroom/keyring"
	"strongroom/sessions"
	"strongroom/wire"
)

// source gives numbers without a pattern, the same ones in each run.
type source uint32

func (s *source) next() int {
	*s = *s*1664525 + 1013904223
	return int(*s >> 16)
}

func (s *source) below(n int) int { return s.next() % n }

func (s *source) bytes(length int) []byte {
	b := make([]byte, length)
	for i := range b {
		b[i] = byte(s.next())
	}
	return b
}

func bytesOf(t *testing.T, digits string) []byte {
	t.Helper()
	b, err := hex.DecodeString(digits)
	if err != nil {
		t.Fatalf("%q is not in hexadecimal", digits)
	}
	return b
}

// wording does what the chapter says, by the calls that it names.
type wording struct {
	source *drbg.Source
	keys   *keyring.Keys
	table  *sessions.Table
}

func newWording(seed []byte) *wording {
	return &wording{drbg.New(seed), keyring.New(), sessions.New()}
}

func (w *wording) clone() *wording {
	return &wording{w.source.Clone(), w.keys.Clone(), w.table.Clone()}
}

// told is a reply, which has only a code if there is an error.
func told(e api.Errno, n, m int, b []byte) api.Reply {
	if e != 0 {
		return api.Reply{Code: e}
	}
	return api.Reply{N: n, M: m, Bytes: b}
}

func (w *wording) apply(c api.Command) api.Reply {
	if wire.Check(c) == api.ErrArg {
		return told(api.ErrArg, 0, 0, nil)
	}
	if c.Kind == 1 {
		id, e := w.table.Open()
		return told(e, id, 0, nil)
	}
	if c.Kind == 2 {
		return told(w.table.Expire(c.Id), 0, 0, nil)
	}
	r, seen, e := w.table.Ask(c.Session, c.Seq)
	if e != 0 {
		return told(e, 0, 0, nil)
	}
	if seen {
		return r
	}
	r = w.execute(c)
	w.table.Done(c.Session, c.Seq, r)
	return r
}

func (w *wording) execute(c api.Command) api.Reply {
	switch c.Kind {
	case 3, 4:
		return w.add(c)
	case 5:
		return told(w.keys.Switch(c.Id, c.N == 1), 0, 0, nil)
	case 6:
		return told(w.keys.Destroy(c.Id, c.N), 0, 0, nil)
	case 7:
		blob, version, e := envelope.Encrypt(w.keys, c.Id, c.Data, c.Beside)
		return told(e, c.Id, version, blob)
	case 8:
		text, e := envelope.Decrypt(w.keys, c.Data, c.Beside)
		return told(e, 0, 0, text)
	case 9:
		blob, version, e := envelope.Rewrap(w.keys, c.Data, c.Beside)
		return told(e, 0, version, blob)
	}
	w.source.Reseed(c.Data)
	return api.Reply{}
}

// add is what CmdCreate and CmdRotate do.
func (w *wording) add(c api.Command) api.Reply {
	drawn, e := w.source.Draw(32, nil)
	if e != 0 {
		return told(e, 0, 0, nil)
	}
	if c.Kind == 3 {
		id, e := w.keys.Create(api.Key(drawn))
		return told(e, id, 1, nil)
	}
	version, e := w.keys.Rotate(c.Id, api.Key(drawn))
	return told(e, c.Id, version, nil)
}

// state is all that a store's encoding tells.
type state struct {
	key, v api.Sum
	count  int
	rings  []api.Ring
	next   int
	seats  []api.Seat
}

func (w *wording) state() state {
	var x state
	x.key, x.v, x.count = w.source.State()
	x.rings = w.keys.Rings()
	x.seats, x.next = w.table.Seats()
	return x
}

// wordingOf is what has the state, if there may be one.
func wordingOf(x state) (*wording, bool) {
	keys, e := keyring.Of(x.rings)
	if e != 0 {
		return nil, false
	}
	table, e := sessions.Of(x.seats, x.next)
	if e != 0 || x.count < 1 {
		return nil, false
	}
	return &wording{drbg.Of(x.key, x.v, x.count), keys, table}, true
}

// field is a part of an encoding: a number, or a byte string.
type field struct {
	name   string
	number int
	text   []byte
	isText bool
}

func numberField(name string, n int) field { return field{name: name, number: n} }

func textField(name string, b []byte) field { return field{name: name, text: b, isText: true} }

func flagField(name string, is bool) field {
	if is {
		return numberField(name, 1)
	}
	return numberField(name, 0)
}

func (f field) encoding() []byte {
	if f.isText {
		return append(numberByWording(len(f.text)), f.text...)
	}
	return numberByWording(f.number)
}

// numberByWording encodes a number that is not negative.
func numberByWording(n int) []byte {
	digits := big.NewInt(int64(n)).Bytes()
	return append([]byte{byte(len(digits))}, digits...)
}

// fields are the parts of the encoding in their order.
func (x state) fields() []field {
	l := []field{textField("key", x.key[:]), textField("V", x.v[:]), numberField("counter", x.count), numberField("keys", len(x.rings))}
	for i, r := range x.rings {
		name := fmt.Sprintf("key %d: ", i+1)
		l = append(l, flagField(name+"off", r.Off), numberField(name+"versions", len(r.L)))
		for j, v := range r.L {
			name := fmt.Sprintf("%sversion %d: ", name, j+1)
			l = append(l, textField(name+"material", v.Material[:]), numberField(name+"uses", v.Uses), flagField(name+"gone", v.Gone))
		}
	}
	l = append(l, numberField("next", x.next), numberField("sessions", len(x.seats)))
	for _, s := range x.seats {
		name := fmt.Sprintf("session %d: ", s.Id)
		l = append(l, numberField(name+"id", s.Id), numberField(name+"seq", s.Seq), numberField(name+"code", int(s.Last.Code)))
		l = append(l, numberField(name+"n", s.Last.N), numberField(name+"m", s.Last.M), textField(name+"bytes", s.Last.Bytes))
	}
	return l
}

func (x state) encoding() []byte { return joined(x.fields()) }

func joined(l []field) []byte {
	var b []byte
	for _, f := range l {
		b = append(b, f.encoding()...)
	}
	return b
}

// reading decodes by the wording, number by number.
type reading struct {
	b   []byte
	bad bool
}

func (r *reading) fail() int {
	r.b, r.bad = nil, true
	return 0
}

func (r *reading) bytes(n int) []byte {
	if n > len(r.b) {
		r.fail()
		return make([]byte, min(n, 8))
	}
	b := r.b[:n]
	r.b = r.b[n:]
	return b
}

func (r *reading) number() int {
	size := int(r.bytes(1)[0])
	if size > 8 {
		return r.fail()
	}
	n := new(big.Int).SetBytes(r.bytes(size))
	if len(n.Bytes()) != size || n.Cmp(big.NewInt(math.MaxInt)) > 0 {
		return r.fail()
	}
	return int(n.Int64())
}

func (r *reading) text(most int) []byte {
	n := r.number()
	if n > most {
		r.fail()
		return nil
	}
	return r.bytes(n)
}

func (r *reading) key() [32]byte {
	b := r.text(32)
	if len(b) != 32 {
		r.fail()
		return [32]byte{}
	}
	return [32]byte(b)
}

func (r *reading) flag() bool {
	n := r.number()
	if n > 1 {
		r.fail()
	}
	return n == 1
}

func (r *reading) ring() api.Ring {
	x := api.Ring{Off: r.flag()}
	for n := r.number(); n > 0 && !r.bad; n-- {
		x.L = append(x.L, api.Version{Material: r.key(), Uses: r.number(), Gone: r.flag()})
	}
	return x
}

func (r *reading) seat() api.Seat {
	s := api.Seat{Id: r.number(), Seq: r.number()}
	s.Last.Code = api.Errno(r.number())
	s.Last.N, s.Last.M, s.Last.Bytes = r.number(), r.number(), r.text(4096)
	return s
}

// decodeByWording is what has the encoding, if there may be one.
func decodeByWording(b []byte) (*wording, bool) {
	r := reading{b: b}
	x := state{key: r.key(), v: r.key(), count: r.number()}
	for n := r.number(); n > 0 && !r.bad; n-- {
		x.rings = append(x.rings, r.ring())
	}
	x.next = r.number()
	for n := r.number(); n > 0 && !r.bad; n-- {
		x.seats = append(x.seats, r.seat())
	}
	if r.bad || len(r.b) > 0 {
		return nil, false
	}
	return wordingOf(x)
}

func sameReply(a, b api.Reply) bool {
	return a.Code == b.Code && a.N == b.N && a.M == b.M && bytes.Equal(a.Bytes, b.Bytes)
}

func sameRings(a, b []api.Ring) bool {
	return slices.EqualFunc(a, b, func(x, y api.Ring) bool { return x.Off == y.Off && slices.Equal(x.L, y.L) })
}

func sameSeats(a, b []api.Seat) bool {
	return slices.EqualFunc(a, b, func(x, y api.Seat) bool {
		return x.Id == y.Id && x.Seq == y.Seq && sameReply(x.Last, y.Last)
	})
}

// pair is a store and what the chapter's wording makes of it.
type pair struct {
	s *Store
	w *wording
}

func newPair(seed string) pair { return pair{New([]byte(seed)), newWording([]byte(seed))} }

func (p pair) clone() pair { return pair{p.s.Clone(), p.w.clone()} }

// do does the same to both, and tells the reply, and how they differ, if they do.
func (p pair) do(c api.Command) (api.Reply, error) {
	got, want := p.s.Apply(c), p.w.apply(c)
	if !sameReply(got, want) {
		return got, fmt.Errorf("%v is answered with %v, want %v", c, got, want)
	}
	return got, p.differ(fmt.Sprint(c))
}

// differ tells how the two are not the same after something.
func (p pair) differ(after string) error {
	want := p.w.state()
	if got := p.s.Rings(); !sameRings(got, want.rings) {
		return fmt.Errorf("after %s: Rings are %v, want %v", after, got, want.rings)
	}
	if got, next := p.s.Seats(); !sameSeats(got, want.seats) || next != want.next {
		return fmt.Errorf("after %s: Seats are %v and %d, want %v and %d", after, got, next, want.seats, want.next)
	}
	if got := p.s.Encode(); !bytes.Equal(got, want.encoding()) {
		return fmt.Errorf("after %s: Encode is %x, want %x", after, got, want.encoding())
	}
	return nil
}

// decoded is the pair of an encoding, of which the wording's decoder and Decode have to make the same.
func decoded(b []byte) (pair, bool, error) {
	s, e := Decode(b)
	w, there := decodeByWording(b)
	switch {
	case !there && (e != api.ErrCode || s != nil):
		return pair{}, false, fmt.Errorf("Decode(%x) gives %v and the error %d, want no store and ErrCode", b, s, e)
	case there && (e != api.OK || s == nil):
		return pair{}, false, fmt.Errorf("Decode(%x) gives the error %d, want a store", b, e)
	case !there:
		return pair{}, false, nil
	}
	p := pair{s, w}
	return p, true, p.differ("Decode")
}

// restored is a pair whose store went through Encode and Decode.
func (p pair) restored() (pair, error) {
	q, there, difference := decoded(p.s.Encode())
	if difference == nil && !there {
		difference = fmt.Errorf("%x is no encoding", p.s.Encode())
	}
	return pair{q.s, p.w.clone()}, difference
}

// check stops the test at the first difference.
func check(t *testing.T, differences ...error) {
	t.Helper()
	for _, difference := range differences {
		if difference != nil {
			t.Fatal(difference)
		}
	}
}
