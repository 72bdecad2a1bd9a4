package journal_test

import (
	"bytes"
	"crypto/sha256"
	"encoding/hex"
	"fmt"
	"math"
	"math/big"
	"runtime"
	"slices"
	"strings"
	"testing"

	"strongroom/api"
	"strongroom/journal"
)

func bytesOf(t *testing.T, digits string) []byte {
	t.Helper()
	b, err := hex.DecodeString(strings.ReplaceAll(digits, " ", ""))
	if err != nil {
		t.Fatalf("%q is not in hexadecimal", digits)
	}
	return b
}

// source gives numbers without a pattern, the same ones in each run.
type source uint32

func (s *source) below(n int) int {
	*s = *s*1664525 + 1013904223
	return int(*s>>16) % n
}

func (s *source) bytes(length int) []byte {
	b := make([]byte, length)
	for i := range b {
		b[i] = byte(s.below(256))
	}
	return b
}

// number is one of up to so many bits.
func (s *source) number(bits int) int {
	n := 0
	for range s.below(bits + 1) {
		n = n<<1 | s.below(2)
	}
	return n
}

// number, text and list are encodings as the chapter of package pack words them.
func number(n int) []byte {
	digits := big.NewInt(int64(n)).Bytes()
	return append([]byte{byte(len(digits))}, digits...)
}

func text(b []byte) []byte { return slices.Concat(number(len(b)), b) }

func list(l []int) []byte {
	b := number(len(l))
	for _, n := range l {
		b = append(b, number(n)...)
	}
	return b
}

func entryBytes(x api.Entry) []byte {
	return slices.Concat(number(x.Term), number(x.Kind), text(x.Data), list(x.Members))
}

// framed is the frame of b, whatever its length is.
func framed(b []byte) []byte {
	sum := sha256.Sum256(b)
	return slices.Concat(text(b), sum[:4])
}

// encoding is that of a record of one of the three kinds, whatever its fields are.
func encoding(r api.Record) []byte {
	switch r.Kind {
	case 1:
		return slices.Concat(number(1), number(r.Hard.Term), number(r.Hard.Vote))
	case 2:
		return slices.Concat(number(2), number(r.Index), text(entryBytes(r.E)))
	}
	return slices.Concat(number(3), number(r.Index), number(r.Term), number(r.N))
}

func within(numbers ...int) bool {
	for _, n := range numbers {
		if n < 0 || n > 1<<40 {
			return false
		}
	}
	return true
}

func zero(numbers ...int) bool {
	return !slices.ContainsFunc(numbers, func(n int) bool { return n != 0 })
}

func noEntry(x api.Entry) bool { return zero(x.Term, x.Kind, len(x.Data), len(x.Members)) }

// entryError is the error of wire.Entry, as its chapter words it.
func entryError(x api.Entry) api.Errno {
	if !within(x.Term) || x.Kind < 0 || x.Kind > 2 {
		return 1
	}
	for _, n := range x.Members {
		if n < 0 {
			return 1
		}
	}
	if len(x.Data) > 4096 || len(x.Members) > 7 {
		return 2
	}
	return 0
}

// putByWording does what the chapter says of Put.
func putByWording(r api.Record) ([]byte, api.Errno) {
	valid := false
	switch r.Kind {
	case 1:
		valid = within(r.Hard.Term, r.Hard.Vote) && zero(r.Index, r.Term, r.N) && noEntry(r.E)
	case 2:
		valid = within(r.Index) && zero(r.Term, r.N, r.Hard.Term, r.Hard.Vote)
	case 3:
		valid = within(r.Index, r.Term, r.N) && zero(r.Hard.Term, r.Hard.Vote) && noEntry(r.E)
	}
	if !valid {
		return nil, 1
	}
	if r.Kind == 2 {
		if e := entryError(r.E); e != 0 {
			return nil, e
		}
		if len(entryBytes(r.E)) > 4096 {
			return nil, 2
		}
	}
	if b := encoding(r); len(b) <= 4096 {
		return framed(b), 0
	}
	return nil, 2
}

// reading decodes by the wording; what can't be decoded is bad, and all that follows.
type reading struct {
	b   []byte
	bad bool
}

func (r *reading) take(n int) []byte {
	if r.bad || n < 0 || n > len(r.b) {
		r.bad = true
		return nil
	}
	taken := r.b[:n]
	r.b = r.b[n:]
	return taken
}

func (r *reading) number() int {
	count := r.take(1)
	if r.bad || count[0] > 8 {
		r.bad = true
		return 0
	}
	digits := r.take(int(count[0]))
	n := new(big.Int).SetBytes(digits)
	if r.bad || len(n.Bytes()) != len(digits) || !n.IsInt64() {
		r.bad = true
		return 0
	}
	return int(n.Int64())
}

func (r *reading) text() []byte {
	length := r.number()
	if length > 4096 {
		r.bad = true
	}
	return slices.Clone(r.take(length))
}

func (r *reading) list() []int {
	length := r.number()
	if length > 7 {
		r.bad = true
		return nil
	}
	var l []int
	for range length {
		l = append(l, r.number())
	}
	return l
}

// recordOf is the record that b, all of it, is the encoding of.
func recordOf(b []byte) (record api.Record, ok bool) {
	r := &reading{b: b}
	record.Kind = r.number()
	switch record.Kind {
	case 1:
		record.Hard.Term = r.number()
		record.Hard.Vote = r.number()
	case 2:
		record.Index = r.number()
		x := &reading{b: r.text()}
		record.E.Term = x.number()
		record.E.Kind = x.number()
		record.E.Data = x.text()
		record.E.Members = x.list()
		if x.bad || len(x.b) > 0 {
			return record, false
		}
	case 3:
		record.Index = r.number()
		record.Term = r.number()
		record.N = r.number()
	}
	_, e := putByWording(record)
	return record, !r.bad && len(r.b) == 0 && e == 0
}

// scanByWording does what the chapter says of Scan, frame by frame.
func scanByWording(b []byte) (l []api.Record, size int) {
	for {
		r := &reading{b: b[size:]}
		inner := r.text()
		sum := r.take(4)
		whole := sha256.Sum256(inner)
		if r.bad || !bytes.Equal(sum, whole[:4]) {
			return l, size
		}
		record, ok := recordOf(inner)
		if !ok {
			return l, size
		}
		l = append(l, record)
		size = len(b) - len(r.b)
	}
}

// foldByWording does what the chapter says of Fold, with an entry at each index.
func foldByWording(l []api.Record) (journal.State, api.Errno) {
	var s journal.State
	at := map[int]api.Entry{}
	for _, r := range l {
		last := s.Index + len(at)
		switch r.Kind {
		case 1:
			s.Hard = r.Hard
		case 2:
			if r.Index <= s.Index {
				break
			}
			if new(big.Int).Sub(big.NewInt(int64(r.Index)), big.NewInt(int64(last))).Cmp(big.NewInt(1)) > 0 {
				return journal.State{}, 110
			}
			for i := range at {
				if i >= r.Index {
					delete(at, i)
				}
			}
			at[r.Index] = r.E
		case 3:
			if r.Index < s.Index {
				break
			}
			x, there := at[r.Index]
			switch {
			case r.Index == s.Index && r.Term == s.Term:
			case there && x.Term == r.Term:
				for i := range at {
					if i <= r.Index {
						delete(at, i)
					}
				}
			default:
				clear(at)
			}
			s.Index, s.Term, s.File = r.Index, r.Term, r.N
		}
	}
	for n := range len(at) {
		s.Entries = append(s.Entries, at[s.Index+1+n])
	}
	return s, 0
}

func sameEntry(a, b api.Entry) bool {
	return a.Term == b.Term && a.Kind == b.Kind && bytes.Equal(a.Data, b.Data) && slices.Equal(a.Members, b.Members)
}

func sameRecord(a, b api.Record) bool {
	return a.Kind == b.Kind && a.Index == b.Index && a.Term == b.Term && a.N == b.N && a.Hard == b.Hard && sameEntry(a.E, b.E)
}

func sameState(a, b journal.State) bool {
	return a.Hard == b.Hard && a.Index == b.Index && a.Term == b.Term && a.File == b.File && slices.EqualFunc(a.Entries, b.Entries, sameEntry)
}

// brief is bytes as they can be printed.
func brief(b []byte) string {
	if len(b) > 60 {
		return fmt.Sprintf("%x .. (%d bytes)", b[:60], len(b))
	}
	return fmt.Sprintf("%x", b)
}

// holdPut holds Put to the wording.
func holdPut(t *testing.T, r api.Record) {
	t.Helper()
	b, e := journal.Put(r)
	want, wantE := putByWording(r)
	if e != wantE || !bytes.Equal(b, want) || e != 0 && b != nil {
		r.E.Data = r.E.Data[:min(len(r.E.Data), 20)]
		t.Fatalf("Put(%v) = %s, %d, want %s, %d", r, brief(b), e, brief(want), wantE)
	}
}

// holdScan holds Scan to the wording, and answers how many records there are.
func holdScan(t *testing.T, b []byte) int {
	t.Helper()
	l, size := journal.Scan(b)
	want, wantSize := scanByWording(b)
	if size != wantSize || !slices.EqualFunc(l, want, sameRecord) {
		t.Fatalf("Scan(%s) = %v, %d, want %v, %d", brief(b), l, size, want, wantSize)
	}
	return len(l)
}

// holdFold holds Fold to the wording.
func holdFold(t *testing.T, l []api.Record) api.Errno {
	t.Helper()
	s, e := journal.Fold(l)
	want, wantE := foldByWording(l)
	if e != wantE || !sameState(s, want) {
		t.Fatalf("Fold(%v) = %v, %d, want %v, %d", l, s, e, want, wantE)
	}
	return e
}

// put is Put where it has to succeed.
func put(t *testing.T, records ...api.Record) []byte {
	t.Helper()
	var all []byte
	for _, r := range records {
		b, e := journal.Put(r)
		if e != api.OK {
			t.Fatalf("Put(%v) gives the error %d", r, e)
		}
		all = append(all, b...)
	}
	return all
}

func hard(term, vote int) api.Record {
	return api.Record{Kind: api.RecHard, Hard: api.Hard{Term: term, Vote: vote}}
}

func entry(index int, x api.Entry) api.Record {
	return api.Record{Kind: api.RecEntry, Index: index, E: x}
}

// of is an entry of a term that has nothing else.
func of(index, term int) api.Record { return entry(index, api.Entry{Term: term}) }

func base(index, term, file int) api.Record {
	return api.Record{Kind: api.RecBase, Index: index, Term: term, N: file}
}

// anyEntry and anyRecord may be encoded, and have no pattern.
func anyEntry(s *source) api.Entry {
	x := api.Entry{Term: s.number(40), Kind: s.below(3), Data: s.bytes(s.below(12))}
	for range s.below(8) {
		x.Members = append(x.Members, s.number(63))
	}
	return x
}

func anyRecord(s *source) api.Record {
	switch s.below(4) {
	case 0:
		return hard(s.number(40), s.number(40))
	case 1:
		return base(s.number(40), s.number(40), s.number(40))
	}
	return entry(s.number(40), anyEntry(s))
}

func anyRecords(s *source, most int) []api.Record {
	l := make([]api.Record, s.below(most+1))
	for i := range l {
		l[i] = anyRecord(s)
	}
	return l
}

// eachString gives all strings of these bytes, up to a length.
func eachString(of []byte, most int, yield func(b []byte)) {
	b := make([]byte, 0, most)
	var longer func()
	longer = func() {
		yield(b)
		if len(b) == most {
			return
		}
		for _, x := range of {
			b = append(b, x)
			longer()
			b = b[:len(b)-1]
		}
	}
	longer()
}

// P11.1 to P11.4: the chapter's examples.
func TestExamplesOfTheDocument(t *testing.T) {
	first, second := put(t, hard(3, 1)), put(t, entry(1, api.Entry{Term: 2, Kind: api.EntCommand, Data: []byte("data")}))
	both := slices.Concat(first, second)
	if l, size := journal.Scan(both[:len(both)-1]); len(l) != 1 || !sameRecord(l[0], hard(3, 1)) || size != len(first) {
		t.Errorf("without the last byte: %v, %d, want the first record and %d", l, size, len(first))
	}
	if s, e := journal.Fold([]api.Record{of(1, 1), of(2, 1), of(2, 2)}); e != api.OK || len(s.Entries) != 2 || s.Entries[0].Term != 1 || s.Entries[1].Term != 2 {
		t.Errorf("an entry in the place of another: %v, %d", s, e)
	}
	if s, e := journal.Fold([]api.Record{of(2, 1)}); e != api.ErrRecord || !sameState(s, journal.State{}) || s.Entries != nil {
		t.Errorf("a gap: %v, %d, want ErrRecord", s, e)
	}
	if s, e := journal.Fold([]api.Record{of(1, 1), of(2, 1), base(1, 1, 0)}); e != api.OK || s.Index != 1 || s.Term != 1 || len(s.Entries) != 1 {
		t.Errorf("a base in the log: %v, %d", s, e)
	}
}

// P11.1: a byte string, and four bytes of its hash.
func TestFrame(t *testing.T) {
	for digits, b := range map[string][]byte{
		"00 e3 b0 c4 42":             nil,
		"01 03 61 62 63 ba 78 16 bf": []byte("abc"),
	} {
		if got, e := journal.Frame(b); e != api.OK || !bytes.Equal(got, bytesOf(t, digits)) {
			t.Errorf("Frame(%q) = %x, %d, want %s", b, got, e, digits)
		}
	}
	s := source(1)
	for _, length := range []int{0, 1, 2, 55, 56, 63, 64, 65, 127, 128, 254, 255, 256, 257, 1000, 4095, 4096} {
		b := s.bytes(length)
		if got, e := journal.Frame(b); e != api.OK || !bytes.Equal(got, framed(b)) {
			t.Errorf("the frame of %d bytes is %s, %d, want %s", length, brief(got), e, brief(framed(b)))
		}
	}
	for _, length := range []int{4097, 4098, 8192, 65536, 1 << 22} {
		if got, e := journal.Frame(make([]byte, length)); got != nil || e != api.ErrLong {
			t.Errorf("the frame of %d bytes is %s, %d, want ErrLong", length, brief(got), e)
		}
	}
}

// P11.2 and P11.3: frames of each kind, written down.
func TestFramesWrittenDown(t *testing.T) {
	for digits, r := range map[string]api.Record{
		"01 04 01 01 00 00 a0 45 4a 24":                                                 hard(0, 0),
		"01 06 01 01 01 03 01 01 53 25 cb 1e":                                           hard(3, 1),
		"01 0c 01 01 06 01 00 00 00 00 00 02 01 00 da a2 0b a7":                         hard(1<<40, 256),
		"01 09 01 02 00 01 04 00 00 00 00 25 25 0f 9d":                                  entry(0, api.Entry{}),
		"01 0b 01 02 01 01 01 05 01 01 00 00 00 5f 56 4c da":                            of(1, 1),
		"01 14 01 02 02 01 00 01 0d 01 03 01 02 01 02 61 62 01 02 00 01 07 49 32 4e 0a": entry(256, api.Entry{Term: 3, Kind: api.EntMembers, Data: []byte("ab"), Members: []int{0, 7}}),
		"01 05 01 03 00 00 00 c7 c5 e4 8e":                                              base(0, 0, 0),
		"01 08 01 03 01 05 01 02 01 01 13 b9 b0 67":                                     base(5, 2, 1),
		"01 0e 01 03 01 01 02 01 00 06 01 00 00 00 00 00 05 99 f3 5d":                   base(1, 256, 1<<40),
	} {
		if b, e := journal.Put(r); e != api.OK || !bytes.Equal(b, bytesOf(t, digits)) {
			t.Errorf("Put(%v) = %x, %d, want %s", r, b, e, digits)
		}
		if l, size := journal.Scan(bytesOf(t, digits)); len(l) != 1 || !sameRecord(l[0], r) || size != len(bytesOf(t, digits)) {
			t.Errorf("Scan(%s) = %v, %d, want %v", digits, l, size, r)
		}
	}
}

// edges are numbers about the limits, and some whose lower or upper digits look like others.
func edges() []int {
	return []int{math.MinInt, -1 << 40, -1, 0, 1, 2, 255, 256, 1 << 32, 1<<40 - 1, 1 << 40, 1<<40 + 1, 1 << 41, math.MaxInt}
}

// numbersOf are the numbers of a record: all that it could have.
func numbersOf(r *api.Record) []*int {
	return []*int{&r.Hard.Term, &r.Hard.Vote, &r.Index, &r.Term, &r.N, &r.E.Term, &r.E.Kind}
}

// P11.2: each number of each kind at its edges, those that the kind does not have among them.
func TestPutNumbers(t *testing.T) {
	for _, r := range []api.Record{hard(0, 0), hard(3, 1), hard(1<<40, 1<<40), of(0, 0), of(7, 2), of(1<<40, 1<<40), base(0, 0, 0), base(3, 2, 1), base(1<<40, 1<<40, 1<<40)} {
		holdPut(t, r)
		for _, n := range edges() {
			for i := range numbersOf(&r) {
				x := r
				*numbersOf(&x)[i] = n
				holdPut(t, x)
				for j := range numbersOf(&r) {
					y := x
					*numbersOf(&y)[j] = -n // two of them, which may not make up for one another
					holdPut(t, y)
				}
			}
		}
	}
}

// P11.2: there are three kinds.
func TestPutKinds(t *testing.T) {
	for _, kind := range append(edges(), 3, 4, 5, 257, 1<<32+1, 1<<40+2) {
		holdPut(t, api.Record{Kind: kind})
		if b, e := journal.Put(api.Record{Kind: kind, Index: 1}); kind != 2 && kind != 3 && (b != nil || e != api.ErrArg) {
			t.Errorf("a record of the kind %d: %x, %d, want ErrArg", kind, b, e)
		}
	}
}

// P11.2: only a RecEntry has an entry; an empty list is none.
func TestPutOfAnEntryThatIsNotThere(t *testing.T) {
	for _, r := range []api.Record{hard(3, 1), base(3, 2, 1)} {
		for _, x := range []api.Entry{{Term: 1}, {Kind: 1}, {Data: []byte{0}}, {Members: []int{0}}, {Data: make([]byte, 5000)}, {Data: make([]byte, 256)}, {Data: make([]byte, 1<<16)}, {Members: make([]int, 9)}, {Members: make([]int, 256)}, {Term: -1}} {
			r.E = x
			if b, e := journal.Put(r); b != nil || e != api.ErrArg {
				t.Errorf("of the kind %d with an entry: %s, %d, want ErrArg", r.Kind, brief(b), e)
			}
		}
		for _, x := range []api.Entry{{Data: []byte{}, Members: []int{}}, {Data: make([]byte, 0, 8), Members: make([]int, 0, 8)}} {
			r.E = x
			holdPut(t, r)
		}
	}
	holdPut(t, entry(1, api.Entry{Data: []byte{}, Members: []int{}}))
}

// P11.2: the error of wire.Entry comes behind ErrArg for the record, and ahead of ErrLong for what is encoded.
func TestPutOfAWrongEntry(t *testing.T) {
	long, many := make([]byte, 4097), make([]int, 8)
	for _, c := range []struct {
		x    api.Entry
		want api.Errno
	}{
		{api.Entry{Term: -1}, api.ErrArg},
		{api.Entry{Term: 1<<40 + 1}, api.ErrArg},
		{api.Entry{Kind: -1}, api.ErrArg},
		{api.Entry{Kind: 3}, api.ErrArg},
		{api.Entry{Members: []int{1, -1}}, api.ErrArg},
		{api.Entry{Kind: 3, Data: long}, api.ErrArg},
		{api.Entry{Kind: 3, Data: long[:4096]}, api.ErrArg},
		{api.Entry{Data: long}, api.ErrLong},
		{api.Entry{Members: many}, api.ErrLong},
		{api.Entry{Data: long[:4096]}, api.ErrLong},
	} {
		if b, e := journal.Put(entry(1, c.x)); b != nil || e != c.want {
			t.Errorf("Put of an entry of the kind %d with %d bytes and %d members: %s, %d, want %d", c.x.Kind, len(c.x.Data), len(c.x.Members), brief(b), e, c.want)
		}
		for _, r := range []api.Record{{Kind: 2, Index: -1, E: c.x}, {Kind: 2, Index: 1<<40 + 1, E: c.x}, {Kind: 2, Term: 1, E: c.x}, {Kind: 2, Hard: api.Hard{Vote: 1}, E: c.x}} {
			if b, e := journal.Put(r); b != nil || e != api.ErrArg {
				t.Errorf("of a wrong record with a wrong entry: %s, %d, want ErrArg", brief(b), e)
			}
		}
	}
}

// P11.2: the entry and the encoding are byte strings, of no more than 4096 bytes.
func TestPutOfTheLongestEntries(t *testing.T) {
	s := source(2)
	for _, index := range []int{0, 1, 256, 1 << 40} {
		longest := 0
		for length := 4060; length <= 4096; length++ {
			for _, x := range []api.Entry{{Term: 0}, {Term: 1}, {Term: 1 << 40}, {Members: []int{1, 256}}} {
				x.Data = s.bytes(length)
				r := entry(index, x)
				holdPut(t, r)
				if b, e := journal.Put(r); e == api.OK {
					longest = max(longest, len(b))
					holdScan(t, slices.Concat(b, put(t, hard(1, 1))))
				}
			}
		}
		if longest != 3+4096+4 {
			t.Errorf("the longest frame of the index %d has %d bytes", index, longest)
		}
	}
}

// P11.2: records without a pattern.
func TestPutOfAnyRecords(t *testing.T) {
	s := source(3)
	for range 5000 {
		r := anyRecord(&s)
		holdPut(t, r)
		*numbersOf(&r)[s.below(7)] = edges()[s.below(14)]
		holdPut(t, r)
		r.Kind = s.below(5)
		holdPut(t, r)
	}
}

// P11.3 and P11.5: the records of whole frames, wherever the bytes end, and whatever they end with.
func TestScanOfConcatenations(t *testing.T) {
	s := source(4)
	for range 60 {
		l := anyRecords(&s, 5)
		b := put(t, l...)
		if got, size := journal.Scan(b); size != len(b) || !slices.EqualFunc(got, l, sameRecord) {
			t.Fatalf("%v comes back as %v, %d", l, got, size)
		}
		var all []byte
		for i, r := range l {
			frame := put(t, r)
			for n := range len(frame) {
				if got, size := journal.Scan(slices.Concat(all, frame[:n])); size != len(all) || !slices.EqualFunc(got, l[:i], sameRecord) {
					t.Fatalf("%d bytes of the frame %d of %v: %v, %d, want %d records and %d", n, i, l, got, size, i, len(all))
				}
			}
			all = append(all, frame...)
		}
		for _, behind := range [][]byte{{0}, {1}, {9}, {255}, make([]byte, 40), s.bytes(40), []byte("abc")} {
			if n := holdScan(t, slices.Concat(b, behind)); n != len(l) {
				t.Fatalf("%x behind %v makes %d records of %d", behind, l, n, len(l))
			}
		}
	}
	if l, size := journal.Scan(nil); len(l) != 0 || size != 0 {
		t.Errorf("of no bytes: %v, %d", l, size)
	}
}

// P11.3 and P11.5: a byte that is changed ends the records ahead of its frame, though whole frames follow.
func TestScanOfDamagedFrames(t *testing.T) {
	s := source(5)
	for range 20 {
		l := append(anyRecords(&s, 3), anyRecord(&s))
		start := 0
		b := put(t, l...)
		for i, r := range l {
			end := start + len(put(t, r))
			for at := start; at < end; at++ {
				for _, change := range []byte{1, 2, 4, 8, 16, 32, 64, 128, 255, byte(1 + s.below(255))} {
					b[at] ^= change
					if got, size := journal.Scan(b); size != start || !slices.EqualFunc(got, l[:i], sameRecord) {
						t.Fatalf("the byte %d of %v with %x: %v, %d, want %d records and %d", at, l, change, got, size, i, start)
					}
					b[at] ^= change
				}
			}
			start = end
		}
	}
}

// P11.3: a frame with the right checksum, but of what no record is encoded as.
func TestScanStopsAtWhatPutDoesNotAnswer(t *testing.T) {
	entryOf := func(b []byte) []byte { return slices.Concat([]byte{1, 2, 1, 1}, text(b)) }
	good := encoding(of(1, 1))
	long := entry(1, api.Entry{Data: make([]byte, 4090)})
	bodies := [][]byte{
		{}, {0}, {1}, {9}, {1, 1}, {1, 2}, {1, 3}, {1, 4}, {1, 0, 0, 0}, {0, 0, 0, 0, 0}, {1, 4, 0, 0, 0}, {1, 4, 0, 0}, {2, 1, 1, 0, 0}, {1, 255, 0, 0},
		{1, 1, 0}, {1, 1, 0, 0, 0}, {1, 3, 0, 0}, {1, 3, 0, 0, 0, 0}, {1, 1, 1, 0, 0}, {1, 1, 0, 1, 0}, {1, 1, 2, 0, 1, 0}, {2, 0, 1, 0, 0},
		{1, 2, 0}, {1, 2, 0, 0}, {1, 2, 0, 1, 3, 0, 0, 0}, {1, 2, 0, 1, 5, 0, 0, 0, 0}, {1, 2, 0, 1, 5, 0, 0, 0, 0, 0}, {1, 2, 0, 2, 0, 4, 0, 0, 0, 0},
		append(slices.Clone(good), 0), good[:len(good)-1],
		entryOf(entryBytes(api.Entry{Kind: 3})), entryOf(entryBytes(api.Entry{Term: 1<<40 + 1})), entryOf(entryBytes(api.Entry{Members: make([]int, 8)})),
		entryOf(nil), entryOf(append(entryBytes(api.Entry{}), 0)), entryOf([]byte{0, 0, 0, 1, 1, 8, 128, 0, 0, 0, 0, 0, 0, 0}), entryOf([]byte{1, 0, 0, 0, 0}),
		encoding(long), slices.Concat(good[:4], text(make([]byte, 5000))), make([]byte, 4097), slices.Concat(encoding(hard(1, 1)), make([]byte, 4080)),
	}
	for _, n := range []int{1<<40 + 1, 1 << 41, math.MaxInt} {
		for _, r := range []api.Record{hard(n, 0), hard(0, n), of(n, 0), base(n, 0, 0), base(0, n, 0), base(0, 0, n)} {
			bodies = append(bodies, encoding(r))
		}
	}
	for _, r := range []api.Record{hard(0, 0), base(0, 0, 0)} {
		bodies = append(bodies, slices.Concat(encoding(r), []byte{1, 1}), slices.Concat(encoding(r), encoding(r)))
	}
	bodies = append(bodies, []byte{1, 1, 8, 128, 0, 0, 0, 0, 0, 0, 0, 0}, []byte{1, 3, 0, 8, 255, 255, 255, 255, 255, 255, 255, 255, 0})
	front, behind := put(t, hard(2, 1)), put(t, hard(3, 1))
	for _, body := range bodies {
		if l, size := journal.Scan(framed(body)); len(l) != 0 || size != 0 {
			t.Errorf("Scan takes the frame of %s as %v, %d", brief(body), l, size)
		}
		b := slices.Concat(front, framed(body), behind)
		if l, size := journal.Scan(b); len(l) != 1 || !sameRecord(l[0], hard(2, 1)) || size != len(front) {
			t.Errorf("with the frame of %s between: %v, %d, want one record and %d", brief(body), l, size, len(front))
		}
	}
}

// P11.3: the length of a frame has one encoding.
func TestScanOfWrongLengths(t *testing.T) {
	for _, r := range []api.Record{hard(3, 1), of(1, 1), base(3, 2, 1)} {
		body := encoding(r)
		sum := sha256.Sum256(body)
		for _, length := range [][]byte{
			{}, {0}, {1, 0}, {2, 0, byte(len(body))}, {3, 0, 0, byte(len(body))}, {8, 0, 0, 0, 0, 0, 0, 0, byte(len(body))}, {9, byte(len(body))}, {129, byte(len(body))}, {byte(len(body))},
			{1, byte(len(body) - 1)}, {1, byte(len(body) + 1)}, {1, byte(len(body) + 4)}, {2, 1, byte(len(body))}, {2, 16, 1}, {2, 255, 255}, {3, 1, 0, 0}, {4, 255, 255, 255, 255},
			{7, 255, 255, 255, 255, 255, 255, 255}, {8, 127, 255, 255, 255, 255, 255, 255, 255}, {8, 128, 0, 0, 0, 0, 0, 0, 0}, {8, 255, 255, 255, 255, 255, 255, 255, 255},
		} {
			b := slices.Concat(length, body, sum[:4])
			for _, x := range [][]byte{b, slices.Concat(b, make([]byte, 300)), length} {
				if l, size := journal.Scan(x); len(l) != 0 || size != 0 {
					t.Errorf("with the length %x: %v, %d, want nothing", length, l, size)
				}
			}
		}
		if n := holdScan(t, slices.Concat([]byte{1, byte(len(body))}, body, sum[:4])); n != 1 {
			t.Errorf("with the right length: %d records", n)
		}
	}
}

// P11.3: a frame of a record has the first four bytes of the hash of its encoding, and no others.
func TestScanOfWrongSums(t *testing.T) {
	r := of(1, 1)
	body := encoding(r)
	sum, ofText := sha256.Sum256(body), sha256.Sum256(text(body))
	for i, wrong := range [][]byte{sum[1:5], sum[28:], ofText[:4], {0, 0, 0, 0}, sum[:3], {sum[3], sum[2], sum[1], sum[0]}} {
		if n := holdScan(t, slices.Concat(text(body), wrong, put(t, r)[len(wrong)/4:])); n != 0 {
			t.Errorf("with the wrong sum %d: %d records", i, n)
		}
	}
	if n := holdScan(t, slices.Concat(text(body), sum[:5])); n != 1 {
		t.Errorf("with a byte behind: %d records", n)
	}
}

// P11.3: all short encodings of some digits, those of records among them.
func TestScanOfAllShortBodies(t *testing.T) {
	records := 0
	try := func(b []byte) { records += holdScan(t, framed(b)) }
	eachString([]byte{0, 1, 2, 3, 4}, 7, try)
	eachString([]byte{0, 1, 2, 3}, 6, func(b []byte) { try(slices.Concat([]byte{1, 2, 0}, text(b))) })
	if records < 100 {
		t.Errorf("only %d of them were records", records)
	}
	eachString([]byte{0, 1, 4, 0xa0, 0x45}, 6, func(b []byte) { holdScan(t, b) })
}

// P11.3: encodings of records, changed, with the right checksum.
func TestScanOfChangedBodies(t *testing.T) {
	s := source(6)
	records := 0
	for range 20000 {
		b := encoding(anyRecord(&s))
		for range 1 + s.below(2) {
			at := s.below(len(b))
			switch s.below(4) {
			case 0:
				b = slices.Delete(b, at, at+1)
			case 1:
				b = slices.Insert(b, at, byte(s.below(9)))
			case 2:
				b[at] = byte(s.below(9))
			default:
				b[at] ^= 1 << s.below(8)
			}
		}
		records += holdScan(t, framed(b))
	}
	if records < 1000 || records > 19000 {
		t.Errorf("%d of them were records", records)
	}
}

// P11.3 and rule R1: a file as long as they get, of the shortest frames, takes memory by its length, not by its square.
func TestScanOfALongFile(t *testing.T) {
	frame := put(t, hard(0, 0))
	count := api.MaxFile / len(frame)
	b := append(bytes.Repeat(frame, count), frame[:api.MaxFile%len(frame)]...)
	var before, after runtime.MemStats
	runtime.ReadMemStats(&before)
	l, size := journal.Scan(b)
	runtime.ReadMemStats(&after)
	if len(l) != count || size != count*len(frame) {
		t.Errorf("%d frames are %d records of %d bytes", count, len(l), size)
	}
	if used := after.TotalAlloc - before.TotalAlloc; used > 1<<28 {
		t.Errorf("scanning %d bytes took %d bytes of memory", len(b), used)
	}
	for i, r := range l {
		if !sameRecord(r, hard(0, 0)) {
			t.Fatalf("the record %d is %v", i, r)
		}
	}
	if s, e := journal.Fold(l); e != api.OK || !sameState(s, journal.State{}) {
		t.Errorf("they come to %v, %d", s, e)
	}
}

// P11.4: each sentence of it, written down.
func TestFold(t *testing.T) {
	names := func(s journal.State) string {
		var all []string
		for _, x := range s.Entries {
			all = append(all, fmt.Sprintf("%d%s", x.Term, x.Data))
		}
		return fmt.Sprintf("%d %d | %d %d %d | %s", s.Hard.Term, s.Hard.Vote, s.Index, s.Term, s.File, strings.Join(all, " "))
	}
	named := func(index, term int, name string) api.Record {
		return entry(index, api.Entry{Term: term, Data: []byte(name)})
	}
	a, b, c := named(1, 1, "a"), named(2, 1, "b"), named(3, 2, "c")
	for _, x := range []struct {
		want string
		l    []api.Record
	}{
		{"0 0 | 0 0 0 | ", nil},
		{"3 1 | 0 0 0 | ", []api.Record{hard(3, 1)}},
		{"2 0 | 0 0 0 | ", []api.Record{hard(3, 1), hard(2, 0)}},
		{"-5 -6 | 0 0 0 | ", []api.Record{hard(-5, -6)}},
		{"0 0 | 0 0 0 | 1a 1b 2c", []api.Record{a, b, c}},
		{"4 2 | 0 0 0 | 1a 1b", []api.Record{a, hard(4, 2), b}},
		{"0 0 | 0 0 0 | 1a 9x", []api.Record{a, b, c, named(2, 9, "x")}},
		{"0 0 | 0 0 0 | 9x", []api.Record{a, b, c, named(1, 9, "x")}},
		{"0 0 | 0 0 0 | 1a 1b 9x", []api.Record{a, b, c, named(3, 9, "x")}},
		{"0 0 | 0 0 0 | 1a 9x 9y", []api.Record{a, b, c, named(2, 9, "x"), named(3, 9, "y")}},
		{"0 0 | 0 0 0 | 1a", []api.Record{a, named(0, 9, "x"), named(-1, 9, "x"), named(math.MinInt, 9, "x")}},
		{"0 0 | 1 1 2 | 1b 2c", []api.Record{a, b, c, base(1, 1, 2)}},
		{"0 0 | 2 1 2 | 2c", []api.Record{a, b, c, base(2, 1, 2)}},
		{"0 0 | 3 2 2 | ", []api.Record{a, b, c, base(3, 2, 2)}},
		{"0 0 | 2 2 1 | ", []api.Record{a, b, c, base(2, 2, 1)}},
		{"0 0 | 3 1 1 | ", []api.Record{a, b, c, base(3, 1, 1)}},
		{"0 0 | 4 2 1 | ", []api.Record{a, b, c, base(4, 2, 1)}},
		{"0 0 | 0 0 7 | 1a 1b 2c", []api.Record{a, b, c, base(0, 0, 7)}},
		{"0 0 | 0 1 7 | ", []api.Record{a, b, c, base(0, 1, 7)}},
		{"0 0 | 0 0 0 | 1a 1b 2c", []api.Record{a, b, c, base(-1, 0, 7), base(math.MinInt, 1, 7)}},
		{"0 0 | 5 2 2 | 3x", []api.Record{base(5, 2, 1), named(6, 3, "x"), base(5, 2, 2)}},
		{"0 0 | 5 3 2 | ", []api.Record{base(5, 2, 1), named(6, 3, "x"), base(5, 3, 2)}},
		{"0 0 | 5 2 1 | 3x", []api.Record{base(5, 2, 1), named(6, 3, "x"), base(4, 2, 2), base(0, 0, 2)}},
		{"0 0 | 5 2 1 | 3x", []api.Record{base(5, 2, 1), named(6, 3, "x"), named(5, 9, "y"), named(1, 9, "y")}},
		{"0 0 | 6 3 2 | 4y", []api.Record{base(5, 2, 1), named(6, 3, "x"), named(7, 4, "y"), base(6, 3, 2)}},
		{"0 0 | 6 3 2 | 5z", []api.Record{base(5, 2, 1), named(6, 3, "x"), named(7, 4, "y"), base(6, 3, 2), named(7, 5, "z")}},
		{"0 0 | 0 0 0 | 1a", []api.Record{a, {}, {Kind: 4, Index: 9, Hard: api.Hard{Term: 1}}, {Kind: -1, Index: 1, N: 1}, {Kind: 258, Index: 3}}},
		{"0 0 | 9223372036854775807 1 1 | ", []api.Record{base(math.MaxInt, 1, 1), named(math.MaxInt, 1, "x")}},
		{"0 0 | 9223372036854775806 1 1 | 1x", []api.Record{base(math.MaxInt-1, 1, 1), named(math.MaxInt, 1, "x")}},
		{"0 0 | 9223372036854775807 1 2 | ", []api.Record{base(math.MaxInt-1, 1, 1), named(math.MaxInt, 1, "x"), base(math.MaxInt, 1, 2)}},
		{"0 0 | 1 -2 -3 | ", []api.Record{base(1, -2, -3)}},
		{"1 1 | 5 2 1 | 3x", []api.Record{{Kind: 3, Index: 5, Term: 2, N: 1, Hard: api.Hard{Term: 9}, E: api.Entry{Term: 9}}, {Kind: 2, Index: 6, Term: 9, N: 9, E: api.Entry{Term: 3, Data: []byte("x")}}, {Kind: 1, Index: 9, Term: 9, N: 9, Hard: api.Hard{Term: 1, Vote: 1}}}},
	} {
		if s, e := journal.Fold(x.l); e != api.OK || names(s) != x.want {
			t.Errorf("Fold(%v) = %s, %d, want %s", x.l, names(s), e, x.want)
		}
		holdFold(t, x.l)
	}
}

// P11.4: a gap ahead of an entry, also if it is the only fault, and whatever follows.
func TestFoldOfGaps(t *testing.T) {
	for _, l := range [][]api.Record{
		{of(2, 1)}, {of(math.MaxInt, 1)}, {hard(3, 1), of(2, 1)}, {of(1, 1), of(3, 1)}, {of(1, 1), of(2, 1), of(4, 1), of(3, 1)},
		{of(1, 1), of(2, 1), of(1, 2), of(3, 2)}, {base(5, 2, 1), of(7, 2)}, {base(5, 2, 1), of(6, 2), of(8, 2)},
		{of(1, 1), of(2, 1), base(2, 1, 1), of(4, 1)}, {of(1, 1), of(2, 1), base(1, 2, 1), of(3, 1)}, {of(2, 1), base(9, 1, 1), hard(1, 1)},
		{base(math.MaxInt-2, 1, 1), of(math.MaxInt, 1)},
	} {
		s, e := journal.Fold(l)
		if e != api.ErrRecord || s.Entries != nil || !sameState(s, journal.State{}) {
			t.Errorf("Fold(%v) = %v, %d, want ErrRecord", l, s, e)
		}
		holdFold(t, l)
	}
}

// P11.4: an entry keeps all that it has.
func TestFoldKeepsEntriesWhole(t *testing.T) {
	s := source(7)
	var l []api.Record
	for i := range 50 {
		l = append(l, entry(i+1, anyEntry(&s)))
	}
	l = append(l, entry(51, api.Entry{Term: -1, Kind: -2, Data: make([]byte, 5000), Members: []int{-1, 2, 3, 4, 5, 6, 7, 8, 9}}))
	state, e := journal.Fold(l)
	if e != api.OK || len(state.Entries) != len(l) {
		t.Fatalf("%d entries come to %d, %d", len(l), len(state.Entries), e)
	}
	for i, x := range state.Entries {
		if !sameEntry(x, l[i].E) {
			t.Errorf("the entry %v comes to %v", l[i].E, x)
		}
	}
}

// P11.4: all sequences of a few records.
func TestFoldOfAllShortSequences(t *testing.T) {
	some := []api.Record{hard(1, 2), {Kind: 7, Index: 1, Term: 1}}
	for index := range 4 {
		for term := range 2 {
			some = append(some, of(index, term))
		}
	}
	for index := range 3 {
		for term := range 2 {
			some = append(some, base(index, term, 5+index+3*term))
		}
	}
	l := make([]api.Record, 0, 5)
	ends := map[api.Errno]int{}
	var longer func()
	longer = func() {
		ends[holdFold(t, l)]++
		if len(l) == 4 || len(l) == 3 && testing.Short() {
			return
		}
		for _, r := range some {
			r.E.Kind = len(l) // tells which one of the records an entry is of
			l = append(l, r)
			longer()
			l = l[:len(l)-1]
		}
	}
	longer()
	if ends[api.OK] < 1000 || ends[api.ErrRecord] < 1000 {
		t.Errorf("%v", ends)
	}
}

// P11.4: long sequences in which most records have an effect, with great numbers at times.
func TestFoldOfLongSequences(t *testing.T) {
	s := source(8)
	ends := map[api.Errno]int{}
	for range 3000 {
		start := []int{0, 0, 1, 1 << 40, math.MaxInt - 20}[s.below(5)]
		l := []api.Record{base(start, 1, 1)}
		last := start
		for range s.below(60) {
			switch s.below(12) {
			case 0:
				l = append(l, hard(s.number(63), s.number(3)))
			case 1:
				l = append(l, base(last-s.below(6), s.below(3), s.below(3)))
			case 2:
				l = append(l, entry(edges()[s.below(4)], anyEntry(&s)))
			case 3:
				last = last - s.below(min(8, last-start+1))
				l = append(l, of(max(last, 1), s.below(3)))
				last = max(last, 1)
			default:
				if last < math.MaxInt {
					last++
				}
				l = append(l, of(last, s.below(3)))
			}
		}
		if s.below(20) == 0 {
			l = append(l, base(edges()[s.below(14)], 1, 2), of(edges()[s.below(14)], 1))
		}
		ends[holdFold(t, l)]++
	}
	if ends[api.OK] < 500 || ends[api.ErrRecord] < 100 {
		t.Errorf("%v", ends)
	}
}

// P11.4: what records come to is the same when it goes through bytes.
func TestFoldOfScan(t *testing.T) {
	s := source(9)
	for range 300 {
		var l []api.Record
		for i := range s.below(20) {
			l = append(l, entry(i+1, anyEntry(&s)))
			if s.below(5) == 0 {
				l = append(l, base(1+s.below(i+1), s.below(2), 1), hard(i, 1))
			}
		}
		scanned, _ := journal.Scan(put(t, l...))
		want, wantE := journal.Fold(l)
		if got, e := journal.Fold(scanned); e != wantE || !sameState(got, want) {
			t.Fatalf("%v comes to %v, %d, through bytes %v, %d", l, want, wantE, got, e)
		}
	}
}

// Rule R6: the same arguments give the same answer, whatever was asked before.
func TestCallsDoNotHearOneAnother(t *testing.T) {
	s := source(10)
	for range 100 {
		l := anyRecords(&s, 4)
		for range 2 {
			for _, r := range l {
				holdPut(t, r)
			}
			holdScan(t, put(t, l...))
			holdFold(t, l)
			journal.Frame(make([]byte, 5000))
			journal.Put(api.Record{Kind: 2, Index: -1})
			journal.Scan(append(put(t, hard(9, 9)), 1, 2, 3))
			journal.Fold([]api.Record{hard(9, 9), of(1, 9), of(3, 9)})
		}
	}
}

// roomy is b with spare capacity behind it, and that memory as a whole.
func roomy(s *source, b []byte) (front, whole []byte) {
	whole = append(slices.Clone(b), s.bytes(100)...)
	return whole[:len(b)], whole
}

// overwrite is what a caller may do with an answer: it is theirs, to its whole capacity.
func overwrite(b []byte) {
	whole := b[:cap(b)]
	for i := range whole {
		whole[i] ^= 0xff
	}
}

func overwriteEntry(x api.Entry) {
	overwrite(x.Data)
	members := x.Members[:cap(x.Members)]
	for i := range members {
		members[i] ^= 0xff
	}
}

// P11.1 and P11.2 (rule R7): arguments stay as they are, to their whole capacity, and frames share nothing with them.
func TestFramesLeaveTheirArgumentsAlone(t *testing.T) {
	s := source(11)
	for range 300 {
		b, whole := roomy(&s, s.bytes(s.below(40)))
		x := anyEntry(&s)
		var data []byte
		x.Data, data = roomy(&s, x.Data)
		members := append(slices.Clone(x.Members), 7, 8, 9)
		x.Members = members[:len(x.Members)]
		before, membersBefore := string(whole)+string(data), slices.Clone(members)
		frame, _ := journal.Frame(b)
		overwrite(frame)
		frame, e := journal.Put(entry(1, x))
		wanted := slices.Clone(frame)
		overwrite(put(t, entry(1, x)))
		if e != api.OK || !bytes.Equal(frame, wanted) {
			t.Fatalf("two frames of %v share memory", x)
		}
		overwrite(frame)
		journal.Put(entry(-1, x))
		if string(whole)+string(data) != before || !slices.Equal(members, membersBefore) {
			t.Fatalf("what was given is changed: %x, %v", b, x)
		}
		frame, _ = journal.Put(entry(1, x))
		overwriteEntry(x)
		if !bytes.Equal(frame, wanted) {
			t.Fatalf("the frame changes with the record: %x", frame)
		}
	}
}

// P11.3 (rule R7): the same of Scan; and no two records share memory.
func TestScanLeavesItsArgumentAlone(t *testing.T) {
	s := source(12)
	for range 300 {
		want := anyRecords(&s, 5)
		b, whole := roomy(&s, put(t, want...))
		before := string(whole)
		l, _ := journal.Scan(b)
		clear(whole)
		if !slices.EqualFunc(l, want, sameRecord) {
			t.Fatalf("%v changes with the bytes: %v", want, l)
		}
		copy(whole, before)
		other, _ := journal.Scan(b)
		for i, r := range l {
			overwriteEntry(r.E)
			if !slices.EqualFunc(l[i+1:], want[i+1:], sameRecord) {
				t.Fatalf("the record %d of %v shares memory with later ones", i, want)
			}
		}
		clear(l[:cap(l)])
		if string(whole) != before || !slices.EqualFunc(other, want, sameRecord) {
			t.Fatalf("the bytes of %v are changed, or another answer", want)
		}
	}
}

// P11.4 (rule R7): the same of Fold, also if two of the records share memory, or the memory of one is behind that of another.
func TestFoldLeavesItsArgumentAlone(t *testing.T) {
	s := source(13)
	for range 300 {
		data, members := s.bytes(100), []int{1, 2, 3, 4, 5, 6, 7, 8, 9, 10}
		var l, want []api.Record
		last := 0
		for range 2 + s.below(12) {
			from, length := s.below(50), s.below(50)
			x := api.Entry{Term: s.below(2), Data: data[from : from+length], Members: members[from/10 : from/10+length/10]}
			last++
			if s.below(4) == 0 {
				last = 1 + s.below(last)
			}
			l = append(l, entry(last, x))
		}
		l = append(l, base(1+s.below(2), s.below(2), 1))
		for _, r := range l {
			r.E.Data, r.E.Members = bytes.Clone(r.E.Data), slices.Clone(r.E.Members)
			want = append(want, r)
		}
		dataBefore := string(data)
		room := append(slices.Clone(l), hard(9, 9))
		first, e := journal.Fold(room[:len(l)])
		second, _ := journal.Fold(l)
		expected, _ := foldByWording(want)
		if e != api.OK || !sameState(first, expected) {
			t.Fatalf("Fold(%v) = %v, %d, want %v", l, first, e, expected)
		}
		for i, x := range first.Entries {
			overwriteEntry(x)
			if !slices.EqualFunc(first.Entries[i+1:], expected.Entries[i+1:], sameEntry) {
				t.Fatalf("the entry %d of %v shares memory with later ones", i, expected)
			}
		}
		clear(first.Entries[:cap(first.Entries)])
		if string(data) != dataBefore || !slices.Equal(members, []int{1, 2, 3, 4, 5, 6, 7, 8, 9, 10}) || !slices.EqualFunc(l, want, sameRecord) {
			t.Fatalf("what was given is changed: %v", want)
		}
		if !sameRecord(room[len(l)], hard(9, 9)) || !slices.EqualFunc(room[:len(l)], want, sameRecord) {
			t.Fatalf("the list that was given is changed: %v", want)
		}
		clear(data)
		clear(members)
		clear(l)
		if !sameState(second, expected) {
			t.Fatalf("the state changes with the records: %v, want %v", second, expected)
		}
	}
}
