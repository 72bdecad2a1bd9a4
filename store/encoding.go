package store

import (
	"strongroom/api"
	"strongroom/drbg"
	"strongroom/keyring"
	"strongroom/pack"
	"strongroom/sessions"
	"strongroom/wire"
)

const (
	wide     = len(api.Key{})  // bytes of a key, and of a sum
	mostPart = 2 * api.MaxText // more bytes than any number, byte string or reply of an encoding has
)

type (
	// writer is an encoding up to where it has been written.
	writer struct{ written []byte }

	// reader is what is left to decode of an encoding.
	reader struct{ left []byte }
)

// Encode is the encoding of the store.
func (s *Store) Encode() []byte {
	var w writer
	w.source(&s.source)
	w.keys(s.Rings())
	w.sessions(s.Seats())
	return w.written
}

// Decode is the store that b encodes.
func Decode(b []byte) (*Store, api.Errno) {
	s, e := attempt(func() *Store {
		r := reader{b}
		s := &Store{source: *r.source(), keys: *r.keys(), table: *r.sessions()}
		r.end()
		return s
	})
	if e != api.OK {
		return nil, api.ErrCode
	}
	return s, api.OK
}

func (w *writer) source(s *drbg.Source) {
	key, v, count := s.State()
	w.text(key[:])
	w.text(v[:])
	w.numbers(count)
}

func (w *writer) keys(l []api.Ring) {
	w.numbers(len(l))
	for _, k := range l {
		w.flag(k.Off)
		w.numbers(len(k.L))
		for _, v := range k.L {
			w.text(v.Material[:])
			w.numbers(v.Uses)
			w.flag(v.Gone)
		}
	}
}

func (w *writer) sessions(l []api.Seat, next int) {
	w.numbers(next, len(l))
	for _, s := range l {
		w.numbers(s.Id, s.Seq)
		w.written = append(w.written, must(wire.Reply(s.Last))...)
	}
}

func (w *writer) numbers(all ...int) {
	for _, n := range all {
		w.written = must(pack.Put(w.written, n))
	}
}

func (w *writer) text(t []byte) {
	w.written = must(pack.PutText(w.written, t))
}

func (w *writer) flag(is bool) {
	if is {
		w.numbers(1)
	} else {
		w.numbers(0)
	}
}

func (r *reader) source() *drbg.Source {
	key, v, count := r.wide(), r.wide(), r.number()
	if count < 1 {
		panic(api.ErrCode)
	}
	return drbg.Of(key, v, count)
}

func (r *reader) keys() *keyring.Keys {
	return must(keyring.Of(list(r, api.MaxKeys, func() api.Ring {
		return api.Ring{Off: r.flag(), L: list(r, api.MaxVersions, r.version)}
	})))
}

func (r *reader) version() api.Version {
	return api.Version{Material: r.wide(), Uses: r.number(), Gone: r.flag()}
}

func (r *reader) sessions() *sessions.Table {
	next := r.number()
	l := list(r, api.MaxSessions, func() api.Seat {
		return api.Seat{Id: r.number(), Seq: r.number(), Last: part(r, wire.TakeReply)}
	})
	return must(sessions.Of(l, next))
}

func (r *reader) number() int {
	return part(r, pack.Take)
}

func (r *reader) flag() bool {
	n := r.number()
	if n > 1 {
		panic(api.ErrCode)
	}
	return n == 1
}

// wide is a byte string that is as long as a key.
func (r *reader) wide() [wide]byte {
	text := part(r, func(b []byte) ([]byte, []byte, api.Errno) { return pack.TakeText(b, wide) })
	if len(text) != wide {
		panic(api.ErrCode)
	}
	return [wide]byte(text)
}

// end refuses bytes behind the store.
func (r *reader) end() {
	if len(r.left) > 0 {
		panic(api.ErrCode)
	}
}

// list is as many of what one takes as the number ahead of them says. More than most are refused ahead of reading them: there may be very many.
func list[T any](r *reader, most int, one func() T) []T {
	count := r.number()
	if count > most {
		panic(api.ErrCode)
	}
	var l []T
	for range count {
		l = append(l, one())
	}
	return l
}

// part is what take takes from the front of what is left. It is given no more than a part may have, since it copies all that is behind.
func part[T any](r *reader, take func(b []byte) (T, []byte, api.Errno)) T {
	front := r.left[:min(len(r.left), mostPart)]
	x, rest, e := take(front)
	insist(e)
	r.left = r.left[len(front)-len(rest):]
	return x
}
