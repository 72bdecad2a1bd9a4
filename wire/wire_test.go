package wire_test

import (
	"bytes"
	"encoding/hex"
	"math"
	"math/big"
	"slices"
	"strings"
	"testing"

	"strongroom/api"
	"strongroom/wire"
)

func bytesOf(t *testing.T, digits string) []byte {
	t.Helper()
	b, err := hex.DecodeString(strings.ReplaceAll(digits, " ", ""))
	if err != nil {
		t.Fatalf("%q is not in hexadecimal", digits)
	}
	return b
}

// source gives bytes without a pattern, the same ones in each run.
type source uint32

func (s *source) next() byte {
	*s = *s*1664525 + 1013904223
	return byte(*s >> 24)
}

func (s *source) bytes(length int) []byte {
	b := make([]byte, length)
	for i := range b {
		b[i] = s.next()
	}
	return b
}

// number is a number of any number of digits.
func (s *source) number() int {
	n := 0
	for _, d := range s.bytes(int(s.next()) % 9) {
		n = n<<8 | int(d)
	}
	return n & math.MaxInt
}

func (s *source) list(length int) []int {
	l := make([]int, length)
	for i := range l {
		l[i] = s.number()
	}
	return l
}

// one is one of the choices.
func one[T any](s *source, choices []T) T { return choices[int(s.next())%len(choices)] }

// number, text and list are encodings as the chapters word them.
func number(n int) []byte {
	digits := big.NewInt(int64(n)).Bytes()
	return append([]byte{byte(len(digits))}, digits...)
}

func text(b []byte) []byte { return append(number(len(b)), b...) }

func list(l []int) []byte {
	b := number(len(l))
	for _, n := range l {
		b = append(b, number(n)...)
	}
	return b
}

// commandParts are the parts of the encoding of a command, valid or not.
func commandParts(c api.Command) [][]byte {
	return [][]byte{number(c.Kind), number(c.Session), number(c.Seq), number(c.Id), number(c.N), text(c.Data), text(c.Beside)}
}

func replyParts(r api.Reply) [][]byte {
	return [][]byte{number(int(r.Code)), number(r.N), number(r.M), text(r.Bytes)}
}

func entryParts(x api.Entry) [][]byte {
	return [][]byte{number(x.Term), number(x.Kind), text(x.Data), list(x.Members)}
}

func joined(parts [][]byte) []byte { return slices.Concat(parts...) }

// reading decodes by the wording; its error is that of the first part that can't be decoded.
type reading struct {
	b []byte
	e api.Errno
}

func (r *reading) fail(e api.Errno) { r.b, r.e = nil, e }

func (r *reading) number() int {
	switch {
	case r.e != 0:
		return 0
	case len(r.b) == 0:
		r.fail(3)
		return 0
	case r.b[0] > 8:
		r.fail(80)
		return 0
	case len(r.b)-1 < int(r.b[0]):
		r.fail(3)
		return 0
	}
	count := int(r.b[0])
	n := new(big.Int).SetBytes(r.b[1 : 1+count])
	if len(n.Bytes()) != count || !n.IsInt64() {
		r.fail(80)
		return 0
	}
	r.b = r.b[1+count:]
	return int(n.Int64())
}

func (r *reading) length(most int) int {
	n := r.number()
	if r.e == 0 && n > most {
		r.fail(2)
		return 0
	}
	return n
}

func (r *reading) text(most int) []byte {
	n := r.length(most)
	if r.e == 0 && len(r.b) < n {
		r.fail(3)
	}
	if r.e != 0 {
		return nil
	}
	taken := r.b[:n]
	r.b = r.b[n:]
	return taken
}

func (r *reading) list(most int) []int {
	var l []int
	for range r.length(most) {
		l = append(l, r.number())
	}
	return l
}

func inside(n int) bool { return n >= 1 && n <= 1<<40 }

// validByWording is the chapter's table.
func validByWording(c api.Command) bool {
	nobody := c.Session == 0 && c.Seq == 0
	request := inside(c.Session) && inside(c.Seq)
	bare := len(c.Data) == 0 && len(c.Beside) == 0
	switch c.Kind {
	case 1:
		return nobody && c.Id == 0 && c.N == 0 && bare
	case 2:
		return nobody && inside(c.Id) && c.N == 0 && bare
	case 3:
		return request && c.Id == 0 && c.N == 0 && bare
	case 4:
		return request && inside(c.Id) && c.N == 0 && bare
	case 5:
		return request && inside(c.Id) && (c.N == 0 || c.N == 1) && bare
	case 6:
		return request && inside(c.Id) && c.N >= 1 && bare
	case 7:
		return request && inside(c.Id) && c.N == 0 && len(c.Data) <= 64 && len(c.Beside) <= 32
	case 8, 9:
		return request && c.Id == 0 && c.N == 0 && len(c.Data) <= 128 && len(c.Beside) <= 32
	case 10:
		return request && c.Id == 0 && c.N == 0 && len(c.Data) >= 1 && len(c.Data) <= 64 && len(c.Beside) == 0
	}
	return false
}

// entryByWording is the error that Entry gives for x.
func entryByWording(x api.Entry) api.Errno {
	if x.Term < 0 || x.Term > 1<<40 || x.Kind < 0 || x.Kind > 2 {
		return 1
	}
	for _, n := range x.Members {
		if n < 0 {
			return 1
		}
	}
	if len(x.Data) > 4096 || len(x.Members) > 7 {
		return 2
	}
	return 0
}

func sameCommand(a, b api.Command) bool {
	return a.Kind == b.Kind && a.Session == b.Session && a.Seq == b.Seq && a.Id == b.Id && a.N == b.N &&
		bytes.Equal(a.Data, b.Data) && bytes.Equal(a.Beside, b.Beside)
}

func sameReply(a, b api.Reply) bool {
	return a.Code == b.Code && a.N == b.N && a.M == b.M && bytes.Equal(a.Bytes, b.Bytes)
}

func sameEntry(a, b api.Entry) bool {
	return a.Term == b.Term && a.Kind == b.Kind && bytes.Equal(a.Data, b.Data) && slices.Equal(a.Members, b.Members)
}

// short tells bytes, but not more than can be read.
func short(b []byte) string {
	if len(b) > 60 {
		return hex.EncodeToString(b[:60]) + ".. (" + big.NewInt(int64(len(b))).String() + " bytes)"
	}
	return hex.EncodeToString(b)
}

// checkCommand holds Check and Command to the wording.
func checkCommand(t *testing.T, c api.Command) {
	t.Helper()
	e := wire.Check(c)
	b, encoded := wire.Command(c)
	switch {
	case !validByWording(c):
		if e != 1 || b != nil || encoded != 1 {
			t.Fatalf("%v: Check %d, Command %s, %d, want ErrArg", c, e, short(b), encoded)
		}
	case e != 0 || encoded != 0 || !bytes.Equal(b, joined(commandParts(c))):
		t.Fatalf("%v: Check %d, Command %s, %d, want OK, %s", c, e, short(b), encoded, short(joined(commandParts(c))))
	}
}

// checkReply and checkEntry hold Reply and Entry to it.
func checkReply(t *testing.T, r api.Reply) {
	t.Helper()
	b, e := wire.Reply(r)
	var want []byte
	var wantE api.Errno
	switch {
	case r.Code < 0 || r.N < 0 || r.M < 0:
		wantE = 1
	case len(r.Bytes) > 4096:
		wantE = 2
	default:
		want = joined(replyParts(r))
	}
	if e != wantE || !bytes.Equal(b, want) || e != 0 && b != nil {
		t.Fatalf("Reply(%d, %d, %d, %s) = %s, %d, want %s, %d", r.Code, r.N, r.M, short(r.Bytes), short(b), e, short(want), wantE)
	}
}

func checkEntry(t *testing.T, x api.Entry) {
	t.Helper()
	b, e := wire.Entry(x)
	var want []byte
	wantE := entryByWording(x)
	if wantE == 0 {
		want = joined(entryParts(x))
	}
	if e != wantE || !bytes.Equal(b, want) || e != 0 && b != nil {
		t.Fatalf("Entry(%d, %d, %s, %d) = %s, %d, want %s, %d", x.Term, x.Kind, short(x.Data), x.Members, short(b), e, short(want), wantE)
	}
}

func commandByWording(b []byte) (api.Command, api.Errno) {
	r := &reading{b: b}
	var c api.Command
	c.Kind = r.number()
	c.Session = r.number()
	c.Seq = r.number()
	c.Id = r.number()
	c.N = r.number()
	c.Data = r.text(math.MaxInt)
	c.Beside = r.text(math.MaxInt)
	if r.e != 0 || len(r.b) != 0 || !validByWording(c) {
		return api.Command{}, 80
	}
	return c, 0
}

func takeReplyByWording(b []byte) (api.Reply, []byte, api.Errno) {
	r := &reading{b: b}
	var reply api.Reply
	reply.Code = api.Errno(r.number())
	reply.N = r.number()
	reply.M = r.number()
	reply.Bytes = r.text(4096)
	if r.e != 0 {
		return api.Reply{}, nil, r.e
	}
	return reply, r.b, 0
}

func takeEntryByWording(b []byte) (api.Entry, api.Errno) {
	r := &reading{b: b}
	var x api.Entry
	x.Term = r.number()
	x.Kind = r.number()
	x.Data = r.text(4096)
	x.Members = r.list(7)
	if r.e != 0 || len(r.b) != 0 || entryByWording(x) != 0 {
		return api.Entry{}, 80
	}
	return x, 0
}

// checkTakeCommand, checkTakeReply and checkTakeEntry hold the decodings to the wording, and tell whether b is accepted.
func checkTakeCommand(t *testing.T, b []byte) bool {
	t.Helper()
	c, e := wire.TakeCommand(b)
	want, wantE := commandByWording(b)
	if !sameCommand(c, want) || e != wantE || e != 0 && (c.Data != nil || c.Beside != nil) {
		t.Fatalf("TakeCommand(%s) = %v, %d, want %v, %d", short(b), c, e, want, wantE)
	}
	return e == 0
}

func checkTakeReply(t *testing.T, b []byte) bool {
	t.Helper()
	r, rest, e := wire.TakeReply(b)
	want, wantRest, wantE := takeReplyByWording(b)
	if !sameReply(r, want) || !bytes.Equal(rest, wantRest) || e != wantE || e != 0 && (r.Bytes != nil || rest != nil) {
		t.Fatalf("TakeReply(%s) = %v, %s, %d, want %v, %s, %d", short(b), r, short(rest), e, want, short(wantRest), wantE)
	}
	return e == 0
}

func checkTakeEntry(t *testing.T, b []byte) bool {
	t.Helper()
	x, e := wire.TakeEntry(b)
	want, wantE := takeEntryByWording(b)
	if !sameEntry(x, want) || e != wantE || e != 0 && (x.Data != nil || x.Members != nil) {
		t.Fatalf("TakeEntry(%s) = %v, %d, want %v, %d", short(b), x, e, want, wantE)
	}
	return e == 0
}

// edges are the numbers about the limits, and some whose lower or upper digits look like others.
func edges() []int {
	return []int{math.MinInt, -1 << 40, -1, 0, 1, 2, 256, 1 << 32, 1<<40 - 1, 1 << 40, 1<<40 + 1, 1 << 41, math.MaxInt}
}

// chosenCommands are valid ones of each kind, at and between the edges of their fields.
func chosenCommands() []api.Command {
	s := source(1)
	var all []api.Command
	for _, n := range []int{1, 2, 255, 256, 65536, 1<<40 - 1, 1 << 40} {
		other := 1 + s.number()%(1<<40)
		all = append(all,
			api.Command{Kind: 1},
			api.Command{Kind: 2, Id: n},
			api.Command{Kind: 3, Session: n, Seq: other},
			api.Command{Kind: 3, Session: other, Seq: n},
			api.Command{Kind: 4, Session: other, Seq: n, Id: 7},
			api.Command{Kind: 4, Session: n, Seq: 3, Id: other},
			api.Command{Kind: 5, Session: 3, Seq: n, Id: other},
			api.Command{Kind: 5, Session: other, Seq: 9, Id: n, N: 1},
			api.Command{Kind: 6, Session: 11, Seq: other, Id: n, N: n},
			api.Command{Kind: 6, Session: n, Seq: 1, Id: 1, N: math.MaxInt},
			api.Command{Kind: 6, Session: 1, Seq: 1, Id: 1, N: 1<<40 + 1})
		for _, length := range []int{0, 1, 31, 32} {
			for kind := 7; kind <= 9; kind++ {
				c := api.Command{Kind: kind, Session: n, Seq: other, Data: s.bytes(2 * length), Beside: s.bytes(length)}
				if kind == 7 {
					c.Id = 1 + other/2
				}
				all = append(all, c)
			}
			all = append(all,
				api.Command{Kind: 8, Session: n, Seq: other, Data: s.bytes(4 * length), Beside: s.bytes(32 - length)},
				api.Command{Kind: 9, Session: other, Seq: n, Data: s.bytes(128 - length)},
				api.Command{Kind: 10, Session: other, Seq: n, Data: s.bytes(2*length + 1 - length/32)})
		}
	}
	return all
}

func chosenReplies() []api.Reply {
	s := source(2)
	all := []api.Reply{{}}
	for _, n := range []int{0, 1, 240, 255, 256, 1 << 40, 1<<40 + 1, math.MaxInt} {
		all = append(all, api.Reply{Code: api.Errno(n)}, api.Reply{N: n}, api.Reply{M: n}, api.Reply{Code: api.Errno(n), N: s.number(), M: s.number()})
	}
	for _, length := range []int{1, 2, 255, 256, 257, 4095, 4096} {
		all = append(all, api.Reply{Bytes: s.bytes(length)}, api.Reply{Code: api.Errno(s.number()), N: s.number(), M: s.number(), Bytes: s.bytes(length)})
	}
	return all
}

func chosenEntries() []api.Entry {
	s := source(3)
	var all []api.Entry
	for kind := range 3 {
		for _, term := range []int{0, 1, 255, 256, 1<<40 - 1, 1 << 40} {
			for length := range 8 {
				all = append(all, api.Entry{Term: term, Kind: kind, Data: s.bytes(length * 5), Members: s.list(length)})
			}
		}
		for _, length := range []int{1, 255, 256, 4095, 4096} {
			all = append(all, api.Entry{Term: 1 << 33, Kind: kind, Data: s.bytes(length), Members: s.list(int(s.next()) % 8)})
		}
		all = append(all, api.Entry{Kind: kind, Members: []int{math.MaxInt, 0, math.MaxInt, 1, 1}})
	}
	return all
}

// P9.1, P9.2, P9.3: the encodings of each kind, written down.
func TestEncodingsWrittenDown(t *testing.T) {
	commands := map[string]api.Command{
		"01 01 00 00 00 00 00 00":                            {Kind: api.CmdOpen},
		"01 02 00 00 02 01 00 00 00 00":                      {Kind: api.CmdExpire, Id: 256},
		"01 03 01 05 01 06 00 00 00 00":                      {Kind: api.CmdCreate, Session: 5, Seq: 6},
		"01 04 01 05 01 06 01 07 00 00 00":                   {Kind: api.CmdRotate, Session: 5, Seq: 6, Id: 7},
		"01 05 01 05 01 06 01 07 01 01 00 00":                {Kind: api.CmdSwitch, Session: 5, Seq: 6, Id: 7, N: 1},
		"01 06 01 05 01 06 01 07 01 08 00 00":                {Kind: api.CmdDestroy, Session: 5, Seq: 6, Id: 7, N: 8},
		"01 07 01 05 01 06 01 07 00 01 02 61 62 01 01 63":    {Kind: api.CmdEncrypt, Session: 5, Seq: 6, Id: 7, Data: []byte("ab"), Beside: []byte("c")},
		"01 08 01 05 01 06 00 00 01 01 61 01 02 62 63":       {Kind: api.CmdDecrypt, Session: 5, Seq: 6, Data: []byte("a"), Beside: []byte("bc")},
		"01 09 06 01 00 00 00 00 00 01 06 00 00 00 01 01 62": {Kind: api.CmdRewrap, Session: 1 << 40, Seq: 6, Beside: []byte("b")},
		"01 0a 01 05 02 01 00 00 00 01 01 61 00":             {Kind: api.CmdReseed, Session: 5, Seq: 256, Data: []byte("a")},
	}
	for digits, c := range commands {
		if b, e := wire.Command(c); e != api.OK || !bytes.Equal(b, bytesOf(t, digits)) {
			t.Errorf("Command(%v) = %x, %d, want %s", c, b, e, digits)
		}
		if got, e := wire.TakeCommand(bytesOf(t, digits)); e != api.OK || !sameCommand(got, c) {
			t.Errorf("TakeCommand(%s) = %v, %d, want %v", digits, got, e, c)
		}
	}
	replies := map[string]api.Reply{
		"00 00 00 00":                      {},
		"01 82 02 01 00 01 07 01 02 61 62": {Code: api.ErrNoKey, N: 256, M: 7, Bytes: []byte("ab")},
	}
	for digits, r := range replies {
		if b, e := wire.Reply(r); e != api.OK || !bytes.Equal(b, bytesOf(t, digits)) {
			t.Errorf("Reply(%v) = %x, %d, want %s", r, b, e, digits)
		}
		if got, rest, e := wire.TakeReply(bytesOf(t, digits+" 7a")); e != api.OK || !sameReply(got, r) || string(rest) != "z" {
			t.Errorf("TakeReply(%s 7a) = %v, %x, %d, want %v", digits, got, rest, e, r)
		}
	}
	entries := map[string]api.Entry{
		"00 00 00 00": {},
		"06 01 00 00 00 00 00 01 01 01 02 61 62 00":    {Term: 1 << 40, Kind: api.EntCommand, Data: []byte("ab")},
		"01 03 01 02 00 01 03 01 01 02 01 00 01 07":    {Term: 3, Kind: api.EntMembers, Members: []int{1, 256, 7}},
		"01 03 00 01 01 61 01 02 00 01 01":             {Term: 3, Kind: api.EntNone, Data: []byte("a"), Members: []int{0, 1}},
		"00 01 01 00 01 01 08 7f ff ff ff ff ff ff ff": {Kind: api.EntCommand, Members: []int{math.MaxInt}},
	}
	for digits, x := range entries {
		if b, e := wire.Entry(x); e != api.OK || !bytes.Equal(b, bytesOf(t, digits)) {
			t.Errorf("Entry(%v) = %x, %d, want %s", x, b, e, digits)
		}
		if got, e := wire.TakeEntry(bytesOf(t, digits)); e != api.OK || !sameEntry(got, x) {
			t.Errorf("TakeEntry(%s) = %v, %d, want %v", digits, got, e, x)
		}
	}
}

// P9.1: the chapter's examples.
func TestExamplesOfTheDocument(t *testing.T) {
	for _, c := range []struct {
		c    api.Command
		want api.Errno
	}{
		{api.Command{Kind: api.CmdOpen}, api.OK},
		{api.Command{Kind: api.CmdOpen, Seq: 1}, api.ErrArg},
		{api.Command{Kind: api.CmdRotate, Session: 1, Seq: 1, Id: 0}, api.ErrArg},
	} {
		if e := wire.Check(c.c); e != c.want {
			t.Errorf("Check(%v) = %d, want %d", c.c, e, c.want)
		}
	}
	open := []byte{1, 1, 0, 0, 0, 0, 0, 0}
	if b, e := wire.Command(api.Command{Kind: api.CmdOpen}); e != api.OK || !bytes.Equal(b, open) {
		t.Errorf("Command({CmdOpen}) = %x, %d", b, e)
	}
	for _, b := range [][]byte{nil, {}, append(open, 0), append(open, 1), append(open, open...)} {
		if c, e := wire.TakeCommand(b); e != api.ErrCode || !sameCommand(c, api.Command{}) {
			t.Errorf("TakeCommand(%x) = %v, %d, want ErrCode", b, c, e)
		}
	}
}

// P9.1: each field of each kind, one beyond each of its limits while the others are right.
func TestEachFieldOfEachKind(t *testing.T) {
	const least, most = 1, 1 << 40
	type limits struct{ session, seq, id, n, data, beside [2]int }
	number, none := [2]int{least, most}, [2]int{}
	kinds := map[int]limits{
		1:  {},
		2:  {id: number},
		3:  {session: number, seq: number},
		4:  {session: number, seq: number, id: number},
		5:  {session: number, seq: number, id: number, n: [2]int{0, 1}},
		6:  {session: number, seq: number, id: number, n: [2]int{1, math.MaxInt}},
		7:  {session: number, seq: number, id: number, data: [2]int{0, 64}, beside: [2]int{0, 32}},
		8:  {session: number, seq: number, data: [2]int{0, 128}, beside: [2]int{0, 32}},
		9:  {session: number, seq: number, data: [2]int{0, 128}, beside: [2]int{0, 32}},
		10: {session: number, seq: number, data: [2]int{1, 64}, beside: none},
	}
	for kind, l := range kinds {
		base := api.Command{Kind: kind, Session: l.session[0], Seq: l.seq[0], Id: l.id[0], N: l.n[0], Data: make([]byte, l.data[0])}
		ask := func(c api.Command, fits bool) {
			t.Helper()
			want := api.ErrArg
			if fits {
				want = api.OK
			}
			if e := wire.Check(c); e != want {
				t.Errorf("Check(%v) = %d, want %d", c, e, want)
			}
			if b, e := wire.Command(c); e != want || fits == (b == nil) {
				t.Errorf("Command(%v) = %x, %d, want %d", c, b, e, want)
			}
		}
		ask(base, true)
		for i, limit := range [][2]int{l.session, l.seq, l.id, l.n} {
			for _, n := range append(edges(), -2, 3, 7, 64, 128) {
				c := base
				*[]*int{&c.Session, &c.Seq, &c.Id, &c.N}[i] = n
				ask(c, limit[0] <= n && n <= limit[1])
			}
		}
		for i, limit := range [][2]int{l.data, l.beside} {
			for _, length := range []int{0, 1, 2, 31, 32, 33, 63, 64, 65, 127, 128, 129, 256, 4096, 4097, 65536} {
				c := base
				*[]*[]byte{&c.Data, &c.Beside}[i] = make([]byte, length)
				ask(c, limit[0] <= length && length <= limit[1])
			}
		}
	}
}

// P9.1: no kind but the ten.
func TestUnknownKinds(t *testing.T) {
	kinds := append(edges()[:4:4], 11, 12, 13, 100, 255, 256, 257, 266, 1<<32+1, 1<<40, 1<<40+3, math.MaxInt)
	for _, kind := range kinds {
		for _, c := range chosenCommands() {
			c.Kind = kind
			checkCommand(t, c)
			if kind >= 0 {
				checkTakeCommand(t, joined(commandParts(c)))
			}
		}
	}
}

// P9.1: all fields at once, about all limits.
func TestCheckFollowsItsWording(t *testing.T) {
	numbers := []int{-1, 0, 1, 2, 1 << 40, 1<<40 + 1}
	lengths := []int{0, 1, 32, 33, 64, 65, 128, 129}
	valid := 0
	for kind := -1; kind <= 12; kind++ {
		for i := range len(numbers) * len(numbers) * len(numbers) * len(numbers) {
			c := api.Command{Kind: kind, Session: numbers[i%6], Seq: numbers[i/6%6], Id: numbers[i/36%6], N: numbers[i/216]}
			for j := range len(lengths) * len(lengths) {
				c.Data, c.Beside = make([]byte, lengths[j%8]), make([]byte, lengths[j/8])
				want := api.ErrArg
				if validByWording(c) {
					want = api.OK
					valid++
					checkCommand(t, c)
				}
				if e := wire.Check(c); e != want {
					t.Fatalf("Check(%v) = %d, want %d", c, e, want)
				}
			}
		}
	}
	if valid == 0 {
		t.Error("no command was valid")
	}
}

// P9.1: nothing but the fields counts: not the bytes themselves, nor whether what is empty is nil.
func TestOnlyLengthsCount(t *testing.T) {
	for kind := 1; kind <= 10; kind++ {
		for _, c := range chosenCommands() {
			if c.Kind != kind {
				continue
			}
			for _, filling := range []byte{0, 1, 8, 9, 255} {
				c.Data, c.Beside = bytes.Repeat([]byte{filling}, len(c.Data)), bytes.Repeat([]byte{filling}, len(c.Beside))
				checkCommand(t, c)
			}
			for _, empty := range [][]byte{nil, {}, []byte("spare")[:0]} {
				if len(c.Data) == 0 {
					c.Data = empty
				}
				c.Beside = empty
				checkCommand(t, c)
			}
		}
	}
}

// P9.1: each length of each byte string.
func TestCommandsOfEachLength(t *testing.T) {
	s := source(4)
	for kind := range 12 {
		for length := range 140 {
			c := api.Command{Kind: kind, Session: 3, Seq: 4, Data: s.bytes(length)}
			if kind == 7 {
				c.Id = 5
			}
			checkCommand(t, c)
			checkTakeCommand(t, joined(commandParts(c)))
			c.Data, c.Beside = s.bytes(7), s.bytes(length)
			checkCommand(t, c)
			checkTakeCommand(t, joined(commandParts(c)))
		}
	}
}

// variants are b cut off, lengthened, and with bytes changed, left out and put in.
func variants(b []byte, see func(b []byte)) {
	letters := []byte{0, 1, 2, 3, 7, 8, 9, 10, 11, 127, 128, 255}
	places := []int{}
	for i := range b {
		if i < 40 || len(b)-i < 40 {
			places = append(places, i)
		}
	}
	see(slices.Clone(b))
	see(append(slices.Clone(b), b...))
	for _, i := range places {
		see(slices.Clone(b[:i]))
		see(slices.Clone(b[i:]))
		see(slices.Delete(slices.Clone(b), i, i+1))
		for _, letter := range letters {
			changed := slices.Clone(b)
			changed[i] = letter
			see(changed)
			see(slices.Insert(slices.Clone(b), i, letter))
		}
	}
	for _, letter := range letters {
		see(append(slices.Clone(b), letter))
	}
}

// wrongNumbers are no numbers, each with the error that pack gives when anything follows.
func wrongNumbers() [][]byte {
	return [][]byte{{9}, {255}, {1, 0}, {2, 0, 1}, {2, 0, 0}, {3, 0, 1, 0}, {8, 0, 1, 2, 3, 4, 5, 6, 7},
		{8, 128, 0, 0, 0, 0, 0, 0, 0}, {8, 255, 255, 255, 255, 255, 255, 255, 255}, {8, 128, 0, 0, 0, 0, 0, 0, 1}}
}

// faults are the parts with one of them wrong, or missing, or cut off.
func faults(parts [][]byte, see func(b []byte)) {
	for i := range parts {
		front, behind := slices.Concat(parts[:i]...), slices.Concat(parts[i+1:]...)
		for _, wrong := range wrongNumbers() {
			see(slices.Concat(front, wrong, behind))
			see(slices.Concat(front, wrong))
		}
		for _, length := range []int{5000, 4097, 4096, 129, 65, 33, 8, 1 << 20, 1 << 40, math.MaxInt} {
			see(slices.Concat(front, number(length), behind))
			see(slices.Concat(front, number(length)))
		}
		see(slices.Concat(front, behind))
		see(slices.Concat(front, parts[i], parts[i], behind))
		for cut := range min(len(parts[i]), 40) {
			see(slices.Concat(front, parts[i][:cut]))
		}
	}
}

// eachString goes through the strings of up to most of the letters, each once.
func eachString(letters []byte, most int, see func(b []byte)) {
	var extend func(b []byte)
	extend = func(b []byte) {
		see(slices.Clone(b))
		if len(b) == most {
			return
		}
		for _, letter := range letters {
			extend(append(slices.Clone(b), letter))
		}
	}
	extend(nil)
}

// P9.1, P9.4: what is no encoding of a valid command is refused, and the rest is taken.
func TestTakeCommandFollowsItsWording(t *testing.T) {
	accepted := 0
	check := func(b []byte) {
		if checkTakeCommand(t, b) {
			accepted++
		}
	}
	for _, c := range chosenCommands() {
		variants(joined(commandParts(c)), check)
		faults(commandParts(c), check)
	}
	eachString([]byte{0, 1, 2, 3}, 9, check)
	eachString([]byte{1, 2, 9}, 3, func(b []byte) { check(append(b, 0, 0, 0, 0, 0, 0, 0)) })
	if accepted < len(chosenCommands()) {
		t.Errorf("%d were accepted", accepted)
	}
}

// P9.1: the encoding of a command that is not valid is refused.
func TestTakeCommandOfInvalidOnes(t *testing.T) {
	for _, valid := range chosenCommands() {
		for _, n := range edges() {
			if n < 0 {
				continue
			}
			for i := range 5 {
				c := valid
				*[]*int{&c.Kind, &c.Session, &c.Seq, &c.Id, &c.N}[i] = n
				checkTakeCommand(t, joined(commandParts(c)))
			}
		}
		for _, length := range []int{0, 1, 32, 33, 64, 65, 128, 129, 4096, 4097, 65536} {
			for i := range 2 {
				c := valid
				*[]*[]byte{&c.Data, &c.Beside}[i] = make([]byte, length)
				checkTakeCommand(t, joined(commandParts(c)))
			}
		}
	}
}

// P9.2: each number about each limit, and each length.
func TestReplyFollowsItsWording(t *testing.T) {
	s := source(5)
	numbers := append(edges(), -2, 240, 255, 257, math.MinInt+1)
	for _, code := range numbers {
		for _, n := range numbers {
			for _, m := range numbers {
				checkReply(t, api.Reply{Code: api.Errno(code), N: n, M: m})
				checkReply(t, api.Reply{Code: api.Errno(code), N: n, M: m, Bytes: []byte("bytes")})
			}
		}
	}
	for length := range 4100 {
		checkReply(t, api.Reply{Code: 7, N: 300, M: length, Bytes: s.bytes(length)})
	}
	for _, length := range []int{4097, 4098, 5000, 8192, 65536, 1 << 20} {
		for _, n := range []int{0, 1, -1} {
			checkReply(t, api.Reply{Bytes: make([]byte, length)})
			checkReply(t, api.Reply{Code: api.Errno(n), Bytes: make([]byte, length)})
			checkReply(t, api.Reply{N: n, Bytes: make([]byte, length)})
			checkReply(t, api.Reply{M: n, Bytes: make([]byte, length)})
		}
	}
	for _, r := range chosenReplies() {
		checkReply(t, r)
	}
}

// P9.2, P9.4: whatever bytes are there, the reply at their front is taken or the first fault is told.
func TestTakeReplyFollowsItsWording(t *testing.T) {
	accepted := 0
	check := func(b []byte) {
		if checkTakeReply(t, b) {
			accepted++
		}
	}
	s := source(6)
	for _, r := range chosenReplies() {
		variants(joined(replyParts(r)), check)
		faults(replyParts(r), check)
		for _, length := range []int{0, 1, 2, 40, 255, 4096, 4097} {
			check(append(joined(replyParts(r)), s.bytes(length)...))
		}
	}
	eachString([]byte{0, 1, 2, 8, 9, 255}, 6, check)
	eachString([]byte{0, 1, 2}, 9, check)
	if accepted < len(chosenReplies()) {
		t.Errorf("%d were accepted", accepted)
	}
}

// P9.2: the error of each part, written down, with whatever is ahead of it and behind it.
func TestTakeReplyTellsTheFirstFault(t *testing.T) {
	wrong := map[string]api.Errno{"09": 80, "ff": 80, "01 00": 80, "02 00 01": 80, "08 80 00 00 00 00 00 00 00": 80}
	ending := map[string]api.Errno{"": 3, "01": 3, "02 01": 3, "08 00": 3, "08 ff ff": 3}
	long := map[string]api.Errno{"02 10 01": 2, "02 10 01 61": 2, "08 7f ff ff ff ff ff ff ff": 2, "03 01 00 00": 2}
	lacking := map[string]api.Errno{"02 10 00": 3, "02 10 00 61 62": 3, "01 01": 3, "01 03 61 62": 3}
	ask := func(digits string, want api.Errno) {
		t.Helper()
		r, rest, e := wire.TakeReply(bytesOf(t, digits))
		if !sameReply(r, api.Reply{}) || r.Bytes != nil || rest != nil || e != want {
			t.Errorf("TakeReply(%s) = %v, %x, %d, want the error %d", digits, r, rest, e, want)
		}
	}
	for _, ahead := range []string{"", "01 05", "01 05 00", "00 02 01 00 01 01"} {
		for digits, want := range wrong {
			for second := range wrong {
				ask(ahead+digits+second, want)
			}
			for second := range ending {
				ask(ahead+digits+second, want)
			}
			ask(ahead+digits+"00 00 00 00", want)
		}
		for digits, want := range ending {
			ask(ahead+digits, want)
		}
	}
	for digits, want := range long {
		ask("01 05 02 01 00 00"+digits, want)
		ask("01 05 02 01 00 00"+digits+strings.Repeat("61", 5000), want)
	}
	for digits, want := range lacking {
		ask("01 05 02 01 00 00"+digits, want)
	}
}

// P9.2, P9.4: any bytes may follow a reply, more than a reply may have too, and further replies.
func TestTakeReplyLeavesTheRest(t *testing.T) {
	s := source(7)
	all := chosenReplies()
	for _, r := range all {
		for _, behind := range [][]byte{nil, {0}, {9}, {255}, s.bytes(30), joined(replyParts(r)), s.bytes(5000), s.bytes(1 << 16)} {
			got, rest, e := wire.TakeReply(append(joined(replyParts(r)), behind...))
			if e != api.OK || !sameReply(got, r) || !bytes.Equal(rest, behind) {
				t.Fatalf("%v ahead of %s is taken as %v, %s, %d", r, short(behind), got, short(rest), e)
			}
		}
	}
	var row []byte
	for _, r := range all {
		row = append(row, joined(replyParts(r))...)
	}
	for _, want := range all {
		r, rest, e := wire.TakeReply(row)
		if e != api.OK || !sameReply(r, want) {
			t.Fatalf("%v in a row is taken as %v, %d", want, r, e)
		}
		row = rest
	}
	if len(row) != 0 {
		t.Errorf("%d bytes are left behind the row", len(row))
	}
}

// P9.3: each number about each limit, and each length.
func TestEntryFollowsItsWording(t *testing.T) {
	s := source(8)
	for _, x := range chosenEntries() {
		checkEntry(t, x)
	}
	for _, term := range edges() {
		for _, kind := range append(edges(), 3, 4, 255, 258) {
			checkEntry(t, api.Entry{Term: term, Kind: kind})
			checkEntry(t, api.Entry{Term: term, Kind: kind, Data: []byte("data"), Members: []int{1, 2, 3}})
			for _, member := range edges() {
				checkEntry(t, api.Entry{Term: term, Kind: kind, Members: []int{member}})
			}
		}
	}
	for length := range 4100 {
		checkEntry(t, api.Entry{Term: length, Kind: length % 3, Data: s.bytes(length), Members: s.list(length % 8)})
	}
	for length := range 40 {
		checkEntry(t, api.Entry{Kind: length % 3, Members: s.list(length)})
	}
}

// P9.3: a negative member, wherever it is, and ahead of all that is too long.
func TestEntryOfNegativeMembers(t *testing.T) {
	for _, n := range []int{-1, -2, -256, -1 << 40, math.MinInt} {
		for _, length := range []int{1, 2, 6, 7, 8, 9, 100, 4096, 4097, 10000} {
			for _, at := range []int{0, length / 2, length - 1} {
				for _, data := range []int{0, 4096, 4097} {
					x := api.Entry{Term: 1, Kind: 2, Data: make([]byte, data), Members: make([]int, length)}
					x.Members[at] = n
					if b, e := wire.Entry(x); b != nil || e != api.ErrArg {
						t.Fatalf("%d at %d of %d, with %d bytes: %s, %d, want ErrArg", n, at, length, data, short(b), e)
					}
				}
			}
		}
	}
}

// P9.3: a number that may not be is told ahead of what is too long.
func TestEntryTellsTheFirstFault(t *testing.T) {
	wrong := []api.Entry{{Term: -1}, {Term: 1<<40 + 1}, {Kind: -1}, {Kind: 3}, {Members: []int{-1}}, {Term: -1, Kind: 3, Members: []int{-1}}}
	for _, x := range wrong {
		for _, data := range []int{0, 4097, 65536} {
			for _, more := range []int{0, 7, 8, 4097} {
				y := x
				y.Data, y.Members = make([]byte, data), append(make([]int, more), x.Members...)
				if b, e := wire.Entry(y); b != nil || e != api.ErrArg {
					t.Fatalf("%d, %d with %d bytes and %d members: %s, %d, want ErrArg", y.Term, y.Kind, data, len(y.Members), short(b), e)
				}
			}
		}
	}
	for kind := range 3 {
		for _, long := range []api.Entry{{Data: make([]byte, 4097)}, {Data: make([]byte, 1<<20)}, {Members: make([]int, 8)}, {Members: make([]int, 4096)}, {Members: make([]int, 4097)}, {Data: make([]byte, 4097), Members: make([]int, 8)}, {Data: make([]byte, 4096), Members: make([]int, 8)}, {Data: make([]byte, 4097), Members: make([]int, 7)}} {
			long.Kind = kind
			if b, e := wire.Entry(long); b != nil || e != api.ErrLong {
				t.Fatalf("%d bytes and %d members: %s, %d, want ErrLong", len(long.Data), len(long.Members), short(b), e)
			}
		}
	}
}

// P9.3, P9.4: what is no encoding of an entry is refused, and the rest is taken.
func TestTakeEntryFollowsItsWording(t *testing.T) {
	accepted := 0
	check := func(b []byte) {
		if checkTakeEntry(t, b) {
			accepted++
		}
	}
	for _, x := range chosenEntries() {
		variants(joined(entryParts(x)), check)
		faults(entryParts(x), check)
	}
	eachString([]byte{0, 1, 2, 8, 9, 255}, 6, check)
	eachString([]byte{0, 1, 2, 3}, 8, check)
	if accepted < len(chosenEntries()) {
		t.Errorf("%d were accepted", accepted)
	}
}

// P9.3: the encoding of what is no entry is refused, and always with the same error.
func TestTakeEntryOfInvalidOnes(t *testing.T) {
	invalid := []api.Entry{
		{Term: 1<<40 + 1}, {Term: math.MaxInt}, {Term: 1 << 41, Kind: 1}, {Kind: 3}, {Kind: 256}, {Kind: 1 << 32}, {Kind: math.MaxInt},
		{Data: make([]byte, 4097)}, {Data: make([]byte, 65536)}, {Kind: 2, Members: make([]int, 8)}, {Kind: 2, Members: make([]int, 300)}, {Kind: 2, Members: make([]int, 4097)},
	}
	for _, x := range invalid {
		if got, e := wire.TakeEntry(joined(entryParts(x))); !sameEntry(got, api.Entry{}) || e != api.ErrCode {
			t.Errorf("of the term %d, the kind %d, %d bytes and %d members: %v, %d, want ErrCode", x.Term, x.Kind, len(x.Data), len(x.Members), got, e)
		}
	}
	for _, b := range [][]byte{nil, {}, {0}, {0, 0, 0}, {0, 0, 0, 0, 0}, {0, 0, 0, 0, 9}, {0, 0, 0, 1, 1, 8, 128, 0, 0, 0, 0, 0, 0, 0}, {9, 0, 0, 0}, {0, 0, 0, 1, 1}} {
		if got, e := wire.TakeEntry(b); !sameEntry(got, api.Entry{}) || e != api.ErrCode {
			t.Errorf("TakeEntry(%x) = %v, %d, want ErrCode", b, got, e)
		}
	}
}

// anyCommand, anyReply and anyEntry are ones that may be encoded, without a pattern.
func anyCommand(s *source) api.Command {
	upTo := func(most int) []byte { return s.bytes(int(s.next()) % (most + 1)) }
	index := func() int { return s.number()%(1<<40) + 1 }
	c := api.Command{Kind: 1 + int(s.next())%10}
	if c.Kind > 2 {
		c.Session, c.Seq = index(), index()
	}
	switch c.Kind {
	case 2, 4:
		c.Id = index()
	case 5:
		c.Id, c.N = index(), int(s.next())%2
	case 6:
		c.Id, c.N = index(), max(1, s.number())
	case 7:
		c.Id, c.Data, c.Beside = index(), upTo(64), upTo(32)
	case 8, 9:
		c.Data, c.Beside = upTo(128), upTo(32)
	case 10:
		c.Data = append(upTo(63), 'x')
	}
	return c
}

func anyReply(s *source) api.Reply {
	return api.Reply{Code: api.Errno(s.number()), N: s.number(), M: s.number(), Bytes: s.bytes(int(s.next()) * one(s, []int{0, 1, 16}))}
}

func anyEntry(s *source) api.Entry {
	return api.Entry{Term: s.number() % (1<<40 + 1), Kind: int(s.next()) % 3, Data: s.bytes(int(s.next()) * one(s, []int{0, 1, 16})), Members: s.list(int(s.next()) % 8)}
}

// P9.4: what is decoded is what was encoded.
func TestDecodingReturnsWhatWasEncoded(t *testing.T) {
	s := source(9)
	commands, replies, entries := chosenCommands(), chosenReplies(), chosenEntries()
	for range 3000 {
		commands, replies, entries = append(commands, anyCommand(&s)), append(replies, anyReply(&s)), append(entries, anyEntry(&s))
	}
	for _, c := range commands {
		b, e := wire.Command(c)
		if got, again := wire.TakeCommand(b); e != api.OK || again != api.OK || !sameCommand(got, c) {
			t.Fatalf("%v comes back as %v, with the errors %d, %d", c, got, e, again)
		}
	}
	for _, r := range replies {
		behind := s.bytes(int(s.next()) % 20)
		b, e := wire.Reply(r)
		if got, rest, again := wire.TakeReply(append(b, behind...)); e != api.OK || again != api.OK || !sameReply(got, r) || !bytes.Equal(rest, behind) {
			t.Fatalf("%v comes back as %v, with the errors %d, %d", r, got, e, again)
		}
	}
	for _, x := range entries {
		b, e := wire.Entry(x)
		if got, again := wire.TakeEntry(b); e != api.OK || again != api.OK || !sameEntry(got, x) {
			t.Fatalf("%v comes back as %v, with the errors %d, %d", x, got, e, again)
		}
	}
}

// P9.4: what is accepted is the encoding of what it is decoded to.
func TestOneEncodingOfEach(t *testing.T) {
	accepted := [3]int{}
	check := func(b []byte) {
		if c, e := wire.TakeCommand(b); e == api.OK {
			accepted[0]++
			if again, e := wire.Command(c); e != api.OK || !bytes.Equal(again, b) {
				t.Fatalf("%x is taken as %v, which is encoded as %x", b, c, again)
			}
		}
		if r, rest, e := wire.TakeReply(b); e == api.OK {
			accepted[1]++
			if again, e := wire.Reply(r); e != api.OK || !bytes.Equal(append(again, rest...), b) {
				t.Fatalf("%x is taken as %v ahead of %x, which is encoded as %x", b, r, rest, again)
			}
		}
		if x, e := wire.TakeEntry(b); e == api.OK {
			accepted[2]++
			if again, e := wire.Entry(x); e != api.OK || !bytes.Equal(again, b) {
				t.Fatalf("%x is taken as %v, which is encoded as %x", b, x, again)
			}
		}
	}
	s := source(10)
	for range 60 {
		variants(joined(commandParts(anyCommand(&s))), check)
		variants(joined(replyParts(anyReply(&s))), check)
		variants(joined(entryParts(anyEntry(&s))), check)
	}
	eachString([]byte{0, 1, 2, 5}, 8, check)
	if slices.Contains(accepted[:], 0) {
		t.Errorf("%d were accepted", accepted)
	}
}

// P9.1 to P9.3: the same arguments give the same answer, whatever was asked before.
func TestCallsDoNotHearOneAnother(t *testing.T) {
	s := source(11)
	for range 100 {
		c, r, x := anyCommand(&s), anyReply(&s), anyEntry(&s)
		for range 2 {
			checkCommand(t, c)
			checkReply(t, r)
			checkEntry(t, x)
			checkTakeCommand(t, joined(commandParts(c)))
			checkTakeReply(t, joined(replyParts(r)))
			checkTakeEntry(t, joined(entryParts(x)))
			wire.Check(api.Command{Kind: 99})
			wire.Command(api.Command{Kind: api.CmdCreate, Session: -1})
			wire.Reply(api.Reply{N: 5, M: -1})
			wire.Entry(api.Entry{Term: 1, Kind: 2, Members: []int{1, 2, -3}})
			wire.TakeCommand([]byte{1, 1, 0, 1, 7, 9})
			wire.TakeReply([]byte{1, 1, 0, 1, 7, 9})
			wire.TakeEntry([]byte{1, 1, 1, 2, 0, 1, 3, 1, 1, 9})
		}
	}
}

// roomy is b with spare capacity behind it, and that memory as a whole.
func roomy(s *source, b []byte) (front, whole []byte) {
	whole = append(slices.Clone(b), s.bytes(200)...)
	return whole[:len(b)], whole
}

// overwrite is what a caller may do with an answer: it is theirs, to its whole capacity.
func overwrite(b []byte) {
	whole := b[:cap(b)]
	for i := range whole {
		whole[i] ^= 0xff
	}
}

// P9.1 to P9.3: neither the arguments nor the spare capacity behind them are changed by an encoding, and the answer shares nothing with them.
func TestEncodingLeavesItsArgumentsAlone(t *testing.T) {
	s := source(12)
	for range 300 {
		c, r, x := anyCommand(&s), anyReply(&s), anyEntry(&s)
		var wholes [4][]byte
		c.Data, wholes[0] = roomy(&s, c.Data)
		c.Beside, wholes[1] = roomy(&s, c.Beside)
		r.Bytes, wholes[2] = roomy(&s, r.Bytes)
		x.Data, wholes[3] = roomy(&s, x.Data)
		members := append(slices.Clone(x.Members), s.list(20)...)
		x.Members = members[:len(x.Members)]
		before, membersBefore := string(slices.Concat(wholes[:]...)), slices.Clone(members)
		wire.Check(c)
		command, _ := wire.Command(c)
		overwrite(command)
		reply, _ := wire.Reply(r)
		overwrite(reply)
		entry, _ := wire.Entry(x)
		overwrite(entry)
		r.M, x.Kind = -1, 3
		wire.Reply(r)
		wire.Entry(x)
		if string(slices.Concat(wholes[:]...)) != before || !slices.Equal(members, membersBefore) {
			t.Fatalf("what was given is changed: %v, %v, %v", c, r, x)
		}
	}
}

// P9.1 to P9.3: the same of decoding; and no two parts of an answer share memory.
func TestDecodingLeavesItsArgumentsAlone(t *testing.T) {
	s := source(13)
	for range 300 {
		wantC, wantR, wantX, behind := anyCommand(&s), anyReply(&s), anyEntry(&s), s.bytes(30)
		command, commandWhole := roomy(&s, joined(commandParts(wantC)))
		reply, replyWhole := roomy(&s, append(joined(replyParts(wantR)), behind...))
		entry, entryWhole := roomy(&s, joined(entryParts(wantX)))
		before := string(slices.Concat(commandWhole, replyWhole, entryWhole))

		c, _ := wire.TakeCommand(command)
		overwrite(c.Data)
		if !bytes.Equal(c.Beside, wantC.Beside) {
			t.Fatalf("Data and Beside of %v share memory", wantC)
		}
		c, _ = wire.TakeCommand(command)
		overwrite(c.Beside)
		if !bytes.Equal(c.Data, wantC.Data) {
			t.Fatalf("Beside and Data of %v share memory", wantC)
		}
		r, rest, _ := wire.TakeReply(reply)
		overwrite(r.Bytes)
		if !bytes.Equal(rest, behind) {
			t.Fatalf("Bytes of %v share memory with the rest", wantR)
		}
		r, rest, _ = wire.TakeReply(reply)
		overwrite(rest)
		if !bytes.Equal(r.Bytes, wantR.Bytes) {
			t.Fatalf("the rest shares memory with Bytes of %v", wantR)
		}
		x, _ := wire.TakeEntry(entry)
		overwrite(x.Data)
		clear(x.Members[:cap(x.Members)])
		if string(slices.Concat(commandWhole, replyWhole, entryWhole)) != before {
			t.Fatalf("what was given is changed: %v, %v, %v", wantC, wantR, wantX)
		}
	}
}

// P9.1 to P9.3: what the caller does with an argument afterwards is not seen in the answer, and later calls leave it as it is.
func TestAnswersStay(t *testing.T) {
	s := source(14)
	for range 300 {
		wantC, wantR, wantX, behind := anyCommand(&s), anyReply(&s), anyEntry(&s), s.bytes(30)
		bc, br, bx := joined(commandParts(wantC)), append(joined(replyParts(wantR)), behind...), joined(entryParts(wantX))
		c, _ := wire.TakeCommand(bc)
		r, rest, _ := wire.TakeReply(br)
		x, _ := wire.TakeEntry(bx)
		clear(bc)
		clear(br)
		clear(bx)
		if !sameCommand(c, wantC) || !sameReply(r, wantR) || !sameEntry(x, wantX) || !bytes.Equal(rest, behind) {
			t.Fatalf("what was decoded changes with the argument: %v, %v, %v", c, r, x)
		}
		command, _ := wire.Command(c)
		reply, _ := wire.Reply(r)
		entry, _ := wire.Entry(x)
		overwrite(c.Data)
		overwrite(c.Beside)
		overwrite(r.Bytes)
		overwrite(x.Data)
		clear(x.Members)
		wire.Command(anyCommand(&s))
		wire.Reply(anyReply(&s))
		wire.Entry(anyEntry(&s))
		if !bytes.Equal(command, joined(commandParts(wantC))) || !bytes.Equal(reply, joined(replyParts(wantR))) || !bytes.Equal(entry, joined(entryParts(wantX))) {
			t.Fatalf("what was encoded changes with the argument: %v, %v, %v", wantC, wantR, wantX)
		}
	}
}

// P9.1 to P9.3: great lengths of which little is there, and long bytes behind, end in an answer.
func TestGreatLengths(t *testing.T) {
	for _, length := range []int{4097, 1 << 20, 1 << 31, 1 << 32, 1 << 40, 1 << 60, math.MaxInt} {
		command := slices.Concat([]byte{1, 8, 1, 1, 1, 1, 0, 0}, number(length))
		for _, b := range [][]byte{command, append(slices.Clone(command), "data"...), slices.Concat(command[:8], []byte{0}, number(length))} {
			if c, e := wire.TakeCommand(b); e != api.ErrCode || !sameCommand(c, api.Command{}) {
				t.Errorf("TakeCommand(%x) = %v, %d, want ErrCode", b, c, e)
			}
		}
		if r, rest, e := wire.TakeReply(slices.Concat([]byte{0, 0, 0}, number(length), []byte("bytes"))); e != api.ErrLong || rest != nil || !sameReply(r, api.Reply{}) {
			t.Errorf("%d bytes of a reply: %v, %x, %d, want ErrLong", length, r, rest, e)
		}
		for _, front := range [][]byte{{0, 0}, {0, 2, 0}} {
			if x, e := wire.TakeEntry(slices.Concat(front, number(length), make([]byte, 20))); e != api.ErrCode || !sameEntry(x, api.Entry{}) {
				t.Errorf("%d bytes or members of an entry: %v, %d, want ErrCode", length, x, e)
			}
		}
	}
	long := make([]byte, 1<<22)
	if r, rest, e := wire.TakeReply(long); e != api.OK || !sameReply(r, api.Reply{}) || len(rest) != len(long)-4 {
		t.Errorf("2^22 zeros: %v, %d bytes behind, %d", r, len(rest), e)
	}
	if _, e := wire.TakeEntry(long); e != api.ErrCode {
		t.Errorf("2^22 zeros are taken as an entry: %d", e)
	}
	copy(long, []byte{1, 1})
	if _, e := wire.TakeCommand(long); e != api.ErrCode {
		t.Errorf("2^22 bytes are taken as a command: %d", e)
	}
}
