package store

import (
	"bytes"
	"fmt"
	"math"
	"slices"
	"strings"
	"testing"

	"strongroom/api"
)

// named is the material that shows whose it is.
func named(name int) api.Key {
	m := api.Key{31: byte(name)}
	for i := range 31 {
		m[i] = byte(name*7 + i)
	}
	return m
}

// many is a state with as many keys, versions and sessions as there may be, and the greatest numbers.
func many() state {
	x := state{key: api.Sum{1, 2, 3}, v: api.Sum{31: 9}, count: math.MaxInt, next: 1 << 40}
	for id := 1; id <= 8; id++ {
		r := api.Ring{Off: id%2 == 0}
		for version := 1; version <= 4; version++ {
			r.L = append(r.L, api.Version{Material: named(10*id + version), Uses: (id + 4*version) % 17})
		}
		r.L[id%4] = api.Version{Uses: id + 8, Gone: true}
		x.rings = append(x.rings, r)
		last := api.Reply{Code: math.MaxInt, N: math.MaxInt - id, M: math.MaxInt, Bytes: bytes.Repeat([]byte{byte(id)}, 4096)}
		x.seats = append(x.seats, api.Seat{Id: 1<<40 - 9 + id, Seq: 1 << 40, Last: last})
	}
	return x
}

// few is a state of each kind of part, with short encodings.
func few() state {
	return state{
		key: api.Sum{1, 2, 3}, v: api.Sum{31: 9}, count: 2,
		rings: []api.Ring{
			{L: []api.Version{{Material: named(1), Uses: 3}, {Uses: 16, Gone: true}}},
			{Off: true, L: []api.Version{{Material: named(2)}}},
		},
		next: 300,
		seats: []api.Seat{
			{Id: 2}, {Id: 7, Seq: 5, Last: api.Reply{N: 1, M: 2, Bytes: []byte("blob")}}, {Id: 299, Seq: 256, Last: api.Reply{Code: 132}},
		},
	}
}

// taken expects that an encoding is one.
func taken(t *testing.T, what string, b []byte) {
	t.Helper()
	p, there, difference := decoded(b)
	check(t, difference)
	if !there {
		t.Fatalf("%s: %x is taken for no encoding", what, b)
	}
	if !bytes.Equal(p.s.Encode(), b) {
		t.Fatalf("%s: %x becomes %x", what, b, p.s.Encode())
	}
}

// notTaken expects that bytes are no encoding.
func notTaken(t *testing.T, what string, b []byte) {
	t.Helper()
	_, there, difference := decoded(b)
	check(t, difference)
	if there {
		t.Fatalf("%s: %x is taken for an encoding", what, b)
	}
}

// P16.3: what may be in a store has an encoding, which Decode takes; at the least and the greatest of each part.
func TestEncodings(t *testing.T) {
	taken(t, "few of all", few().encoding())
	taken(t, "as much as there may be", many().encoding())
	for name, change := range map[string]func(x *state){
		"nothing":             func(x *state) { x.rings, x.seats, x.next = nil, nil, 1 },
		"no keys":             func(x *state) { x.rings = nil },
		"no sessions":         func(x *state) { x.seats = nil },
		"counter 1":           func(x *state) { x.count = 1 },
		"counter 255":         func(x *state) { x.count = 255 },
		"counter 2^20":        func(x *state) { x.count = 1 << 20 },
		"counter 2^20 + 1":    func(x *state) { x.count = 1<<20 + 1 },
		"the greatest count":  func(x *state) { x.count = math.MaxInt },
		"zero key":            func(x *state) { x.key = api.Sum{} },
		"zero V":              func(x *state) { x.v = api.Sum{} },
		"zero material":       func(x *state) { x.rings[0].L[0].Material = api.Key{} },
		"16 uses":             func(x *state) { x.rings[0].L[0].Uses = 16 },
		"gone and off":        func(x *state) { x.rings[0].Off, x.rings[1].L[0] = true, api.Version{Gone: true} },
		"next to the last":    func(x *state) { x.next = 301 },
		"the greatest next":   func(x *state) { x.next = 1 << 40 },
		"the greatest id":     func(x *state) { x.next, x.seats[2].Id = 1<<40, 1<<40-1 },
		"the first id":        func(x *state) { x.seats[0].Id = 1 },
		"the greatest seq":    func(x *state) { x.seats[1].Seq = 1 << 40 },
		"seq without a reply": func(x *state) { x.seats[0].Seq = 1 },
		"any code":            func(x *state) { x.seats[1].Last.Code = math.MaxInt },
		"the longest bytes":   func(x *state) { x.seats[1].Last.Bytes = make([]byte, 4096) },
	} {
		x := few()
		change(&x)
		taken(t, name, x.encoding())
	}
}

// P16.3: what may not be in a store has no encoding that Decode takes.
func TestWhatMayNotBe(t *testing.T) {
	for name, change := range map[string]func(x *state){
		"counter 0":              func(x *state) { x.count = 0 },
		"no version":             func(x *state) { x.rings[1].L = nil },
		"five versions":          func(x *state) { x.rings[1].L = make([]api.Version, 5) },
		"256 versions":           func(x *state) { x.rings[1].L = make([]api.Version, 256) },
		"nine keys":              func(x *state) { x.rings = slices.Repeat(x.rings[:1], 9) },
		"17 uses":                func(x *state) { x.rings[0].L[0].Uses = 17 },
		"256 uses":               func(x *state) { x.rings[0].L[0].Uses = 256 },
		"17 uses of one gone":    func(x *state) { x.rings[0].L[1].Uses = 17 },
		"gone with material":     func(x *state) { x.rings[0].L[0].Gone = true },
		"gone with a byte of it": func(x *state) { x.rings[0].L[1].Material = api.Key{31: 1} },
		"next 0":                 func(x *state) { x.next, x.seats = 0, nil },
		"next 2^40 + 1":          func(x *state) { x.next = 1<<40 + 1 },
		"the greatest next":      func(x *state) { x.next = math.MaxInt },
		"next is given":          func(x *state) { x.next = 299 },
		"next was given":         func(x *state) { x.next = 8 },
		"id 0":                   func(x *state) { x.seats[0].Id = 0 },
		"the same id twice":      func(x *state) { x.seats[1].Id = 2 },
		"ids not in order":       func(x *state) { x.seats[0], x.seats[1] = x.seats[1], x.seats[0] },
		"nine sessions": func(x *state) {
			x.seats = nil
			for id := 1; id <= 9; id++ {
				x.seats = append(x.seats, api.Seat{Id: id})
			}
		},
		"seq 2^40 + 1":             func(x *state) { x.seats[1].Seq = 1<<40 + 1 },
		"the greatest seq":         func(x *state) { x.seats[1].Seq = math.MaxInt },
		"a code without a request": func(x *state) { x.seats[0].Last.Code = 1 },
		"n without a request":      func(x *state) { x.seats[0].Last.N = 1 },
		"m without a request":      func(x *state) { x.seats[0].Last.M = 1 },
		"bytes without a request":  func(x *state) { x.seats[0].Last.Bytes = []byte{0} },
		"bytes that are too long":  func(x *state) { x.seats[1].Last.Bytes = make([]byte, 4097) },
		"bytes of another length":  func(x *state) { x.seats[1].Last.Bytes = make([]byte, 9000) },
	} {
		x := few()
		change(&x)
		notTaken(t, name, x.encoding())
	}
}

// P16.3: each beginning of an encoding is none, and neither is one with bytes behind it.
func TestBeginnings(t *testing.T) {
	for _, x := range []state{few(), newWording(nil).state()} {
		b := x.encoding()
		for size := range b {
			notTaken(t, "a beginning", b[:size])
		}
		for _, more := range []string{"\x00", "\x01\x01", string(b)} {
			notTaken(t, "with more behind it", append(bytes.Clone(b), more...))
		}
		notTaken(t, "with very much behind it", append(bytes.Clone(b), make([]byte, 1<<20)...))
	}
	b := many().encoding()
	for size := 0; size < len(b); size += 37 {
		notTaken(t, "a beginning", b[:size])
	}
	notTaken(t, "all but a byte", b[:len(b)-1])
	notTaken(t, "a byte behind it", append(b, 0))
	notTaken(t, "nothing", nil)
}

// P16.3: no part may be missing, be there twice, or be encoded in another way.
func TestOtherEncodingsOfParts(t *testing.T) {
	l := few().fields()
	replaced := func(i int, b []byte) []byte {
		return slices.Concat(joined(l[:i]), b, joined(l[i+1:]))
	}
	for i, f := range l {
		b := f.encoding()
		taken(t, f.name, replaced(i, b))
		notTaken(t, f.name+" is missing", replaced(i, nil))
		for _, other := range otherEncodings(f) {
			notTaken(t, fmt.Sprintf("%s is %x", f.name, other), replaced(i, other))
		}
	}
}

// otherEncodings are no encodings of a field, each for a reason of its own.
func otherEncodings(f field) [][]byte {
	b := f.encoding()
	length := append([]byte{b[0] + 1, 0}, b[1:]...)
	l := [][]byte{length, {9}, {255}, append([]byte{9}, make([]byte, 9)...), {8, 128, 0, 0, 0, 0, 0, 0, 0}, bytes.Repeat([]byte{255}, 9)}
	if f.isText {
		l = append(l, numberByWording(math.MaxInt), numberByWording(4097))
	}
	if f.isText && len(f.text) == 32 {
		shorter, longer := textField("", f.text[1:]), textField("", append(bytes.Clone(f.text), 0))
		l = append(l, shorter.encoding(), longer.encoding(), textField("", nil).encoding(), textField("", make([]byte, 4096)).encoding())
	}
	return l
}

// P16.3: what tells yes or no is 1 or 0.
func TestFlags(t *testing.T) {
	l := few().fields()
	flags := 0
	for i, f := range l {
		if !slices.Contains([]string{"key 1: off", "key 2: off", "key 1: version 1: gone", "key 1: version 2: gone", "key 2: version 1: gone"}, f.name) {
			continue
		}
		flags++
		for _, n := range []int{2, 3, 255, 256, 257, 1 << 32, math.MaxInt} {
			notTaken(t, fmt.Sprintf("%s is %d", f.name, n), slices.Concat(joined(l[:i]), numberByWording(n), joined(l[i+1:])))
		}
	}
	if flags != 5 {
		t.Errorf("there were %d flags", flags)
	}
}

// isCount tells whether a field says how many of something follow.
func isCount(f field) bool {
	return f.name == "keys" || f.name == "sessions" || strings.HasSuffix(f.name, ": versions")
}

// P16.3: what is counted has to be there, as often as it says; also if there are as many as there may be.
func TestCounts(t *testing.T) {
	counts := 0
	for _, x := range []state{few(), many()} {
		l := x.fields()
		for i, f := range l {
			if !isCount(f) {
				continue
			}
			counts++
			for _, n := range []int{0, 1, 2, 3, 4, 5, 6, 7, 8, 9, 10, 255, 256, 1 << 40, math.MaxInt} {
				b := slices.Concat(joined(l[:i]), numberByWording(n), joined(l[i+1:]))
				if n == f.number {
					taken(t, f.name, b)
				} else {
					notTaken(t, fmt.Sprintf("%s are %d", f.name, n), b)
				}
			}
		}
	}
	if counts != 4+10 {
		t.Errorf("there were %d counts", counts)
	}
}

// P16.3, rule R1: a count that says very much takes no time, whatever is behind it.
func TestGreatCounts(t *testing.T) {
	l := few().fields()
	for i, f := range l {
		if !isCount(f) {
			continue
		}
		for _, n := range []int{1 << 19, math.MaxInt} {
			s, e := Decode(slices.Concat(joined(l[:i]), numberByWording(n), make([]byte, 1<<20)))
			if s != nil || e != api.ErrCode {
				t.Errorf("%s are %d: error %d", f.name, n, e)
			}
		}
	}
}

// P16.3: whichever byte of an encoding changes, or is left out, or comes between: what Decode takes is the encoding of what it makes of it.
func TestChangedEncodings(t *testing.T) {
	b := few().encoding()
	accepted := 0
	try := func(changed []byte) {
		p, there, difference := decoded(changed)
		check(t, difference)
		if there {
			accepted++
			if !bytes.Equal(p.s.Encode(), changed) {
				t.Fatalf("%x becomes %x", changed, p.s.Encode())
			}
		}
	}
	for i := range b {
		for value := range 256 {
			if i < 70 && value > 40 && value < 250 {
				continue
			}
			try(with(b, i, byte(value)))
		}
		try(slices.Delete(bytes.Clone(b), i, i+1))
		for _, value := range []byte{0, 1, 2, 8, 32, 255} {
			try(slices.Insert(bytes.Clone(b), i, value))
		}
	}
	s := source(163)
	for range 4000 {
		changed := bytes.Clone(b)
		for range 1 + s.below(4) {
			changed[s.below(len(changed))] = byte(s.below(4))
		}
		try(changed[:len(changed)-min(1, s.below(8))])
	}
	if accepted < 1000 {
		t.Errorf("only %d were taken", accepted)
	}
}

// P16.3: bytes without a pattern are no encodings.
func TestAnyBytes(t *testing.T) {
	s := source(164)
	for range 4000 {
		b := s.bytes(s.below(200))
		if len(b) > 68 && s.below(2) > 0 {
			b[0], b[1], b[34], b[35] = 1, 32, 1, 32
		}
		_, _, difference := decoded(b)
		check(t, difference)
	}
}

// P16.4: after Decode(Encode()) there is the same store, even if a request was answered with very much.
func TestDecodeOfEncode(t *testing.T) {
	for _, x := range []state{few(), many()} {
		p := pairOf(t, x)
		q, difference := p.restored()
		check(t, difference)
		expect(t, q, expire(x.seats[1].Id), fine)
		expect(t, q, of(x.seats[2].Id, x.seats[2].Seq, create), x.seats[2].Last)
		check(t, p.differ("commands of what was decoded"))
	}
}
