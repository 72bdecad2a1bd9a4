package drbg

import (
	"bytes"
	"crypto/hmac"
	"crypto/sha256"
	"encoding/hex"
	"math"
	"slices"
	"strings"
	"testing"

	"strongroom/api"
	"strongroom/mac"
)

func bytesOf(t *testing.T, digits string) []byte {
	t.Helper()
	b, err := hex.DecodeString(digits)
	if err != nil {
		t.Fatalf("%q is not in hexadecimal", digits)
	}
	return b
}

// source gives bytes without a pattern, the same ones in each run.
type source uint32

func (s *source) next() byte {
	*s = *s*1664525 + 1013904223
	return byte(*s >> 24)
}

func (s *source) bytes(length int) []byte {
	b := make([]byte, length)
	for i := range b {
		b[i] = s.next()
	}
	return b
}

func (s *source) sum() api.Sum {
	return api.Sum(s.bytes(32))
}

// drawer is a source in any state, as a seed hardly ever makes it.
func (s *source) drawer(count int) *Source {
	return Of(s.sum(), s.sum(), count)
}

// wording does what the chapter says, step by step, with the library's HMAC.
type wording struct {
	key, v []byte
	count  int
}

func librarySum(key, b []byte) []byte {
	h := hmac.New(sha256.New, key)
	h.Write(b)
	return h.Sum(nil)
}

func (w *wording) update(b []byte) {
	m := append(slices.Clone(w.v), 0)
	w.key = librarySum(w.key, append(m, b...))
	w.v = librarySum(w.key, w.v)
	if len(b) == 0 {
		return
	}
	m = append(slices.Clone(w.v), 1)
	w.key = librarySum(w.key, append(m, b...))
	w.v = librarySum(w.key, w.v)
}

func newByWording(seed []byte) *wording {
	w := &wording{key: make([]byte, 32), v: bytes.Repeat([]byte{1}, 32)}
	w.reseed(seed)
	return w
}

func (w *wording) reseed(b []byte) {
	w.update(b)
	w.count = 1
}

func (w *wording) draw(n int, more []byte) ([]byte, api.Errno) {
	if n < 0 || n > 256 {
		return nil, api.ErrArg
	}
	if w.count > 1048576 {
		return nil, api.ErrSeed
	}
	if len(more) != 0 {
		w.update(more)
	}
	var output []byte
	for len(output) < n {
		w.v = librarySum(w.key, w.v)
		output = append(output, w.v...)
	}
	w.update(more)
	w.count++
	return output[:n], api.OK
}

// wordingOf is what the chapter's wording makes of a source's state.
func wordingOf(s *Source) *wording {
	key, v, count := s.State()
	return &wording{key[:], v[:], count}
}

// state is what State gives, to be compared as a whole.
type state struct {
	key, v api.Sum
	count  int
}

func stateOf(s *Source) state {
	key, v, count := s.State()
	return state{key, v, count}
}

func (w *wording) state() state {
	return state{api.Sum(w.key), api.Sum(w.v), w.count}
}

// draw is Draw where it has to succeed.
func draw(t *testing.T, s *Source, n int, more []byte) []byte {
	t.Helper()
	b, code := s.Draw(n, more)
	if code != api.OK || len(b) != n {
		t.Fatalf("Draw(%d, %x) gives %d bytes and the error %d", n, more, len(b), code)
	}
	return b
}

// drawByWording draws from both, and holds the bytes, the error and the state afterwards to the wording's.
func drawByWording(t *testing.T, s *Source, w *wording, n int, more []byte) {
	t.Helper()
	got, code := s.Draw(n, more)
	want, wantCode := w.draw(n, more)
	if code != wantCode || !bytes.Equal(got, want) {
		t.Fatalf("Draw(%d, %x) = %x, %d, want %x, %d", n, more, got, code, want, wantCode)
	}
	if stateOf(s) != w.state() {
		t.Fatalf("Draw(%d, %x) leads to %v, want %v", n, more, stateOf(s), w.state())
	}
}

// chosenLengths are the lengths around a sum's, and where what is summed fills up a block of sha.
func chosenLengths() []int {
	return []int{0, 1, 2, 21, 22, 23, 24, 30, 31, 32, 33, 63, 64, 65, 94, 95, 96, 128, 200, 1000}
}

// chosenCounts are the counters about 0, about the last draw, and far from both.
func chosenCounts() []int {
	return []int{math.MinInt, math.MinInt32, -1, 0, 1, 2, 255, 256, 1<<20 - 1, 1 << 20, 1<<20 + 1, 1<<21 - 1, 1 << 32, math.MaxInt - 1, math.MaxInt}
}

// P7.1, P7.2: the first of the standard's test cases, of each kind without prediction resistance: the second of two draws is known.
func TestDrawsOfTheStandardsSeeds(t *testing.T) {
	cases := []struct{ seed, reseed, more1, more2, want string }{
		{
			seed: "ca851911349384bffe89de1cbdc46e6831e44d34a4fb935ee285dd14b71a7488" + "659ba96c601dc69fc902940805ec0ca8",
			want: "e528e9abf2dece54d47c7e75e5fe302149f817ea9fb4bee6f4199697d04d5b89d54fbb978a15b5c443c9ec21036d2460" +
				"b6f73ebad0dc2aba6e624abf07745bc107694bb7547bb0995f70de25d6b29e2d3011bb19d27676c07162c8b5ccde0668" +
				"961df86803482cb37ed6d5c0bb8d50cf1f50d476aa0458bdaba806f48be9dcb8",
		},
		{
			seed:   "06032cd5eed33f39265f49ecb142c511da9aff2af71203bffaf34a9ca5bd9c0d" + "0e66f71edc43e42a45ad3c6fc6cdc4df",
			reseed: "01920a4e669ed3a85ae8a33b35a74ad7fb2a6bb4cf395ce00334a9c9a5a5d552",
			want: "76fc79fe9b50beccc991a11b5635783a83536add03c157fb30645e611c2898bb2b1bc215000209208cd506cb28da2a51" +
				"bdb03826aaf2bd2335d576d519160842e7158ad0949d1a9ec3e66ea1b1a064b005de914eac2e9d4f2d72a8616a802254" +
				"22918250ff66a41bd2f864a6a38cc5b6499dc43f7f2bd09e1e0f8f5885935124",
		},
		{
			seed: "05ac9fc4c62a02e3f90840da5616218c6de5743d66b8e0fbf833759c5928b53d" + "2b89a17904922ed8f017a63044848545",
			reseed: "2791126b8b52ee1fd9392a0a13e0083bed4186dc649b739607ac70ec8dcecf9b" +
				"43bac13bae715092cf7eb280a2e10a962faf7233c41412f69bc74a35a584e54c",
			more1: "3f2fed4b68d506ecefa21f3f5bb907beb0f17dbc30f6ffbba5e5861408c53a1e",
			more2: "529030df50f410985fde068df82b935ec23d839cb4b269414c0ede6cffea5b68",
			want: "02ddff5173da2fcffa10215b030d660d61179e61ecc22609b1151a75f1cbcbb4363c3a89299b4b63aca5e581e73c8604" +
				"91010aa35de3337cc6c09ebec8c91a6287586f3a74d9694b462d2720ea2e11bbd02af33adefb4a16e6b370fa0effd57d" +
				"607547bdcfbb7831f54de7073ad2a7da987a0016a82fa958779a168674b56524",
		},
	}
	for _, c := range cases {
		s := New(bytesOf(t, c.seed))
		if c.reseed != "" {
			s.Reseed(bytesOf(t, c.reseed))
		}
		draw(t, s, 128, bytesOf(t, c.more1))
		if got := draw(t, s, 128, bytesOf(t, c.more2)); !bytes.Equal(got, bytesOf(t, c.want)) {
			t.Errorf("the seed %s leads to %x, want %s", c.seed, got, c.want)
		}
	}
}

// P7.1, P7.2: RFC 6979 draws its numbers so, seeded with a key and a text's hash.
func TestDrawsOfSignaturesNumbers(t *testing.T) {
	cases := []struct{ text, want string }{
		{"sample", "a6e3c57dd01abe90086538398355dd4c3b17aa873382b0f24d6129493d8aad60"},
		{"test", "d16b6ae827f17175e040871a1c7ec3500192c4c92677336ec2537acaee0008e0"},
	}
	key := bytesOf(t, "c9afa9d845ba75166b5c215767b1d6934e50c3db36e89b127b8a622b120f6721")
	for _, c := range cases {
		hash := sha256.Sum256([]byte(c.text))
		if got := draw(t, New(slices.Concat(key, hash[:])), 32, nil); !bytes.Equal(got, bytesOf(t, c.want)) {
			t.Errorf("the number for %q is %x, want %s", c.text, got, c.want)
		}
	}
}

// P7.1: without a seed a source has gone through one round, and no second one; nil or not.
func TestNewOfNothing(t *testing.T) {
	ones := bytes.Repeat([]byte{1}, 32)
	key := mac.Sum(make([]byte, 32), append(slices.Clone(ones), 0))
	want := state{key, mac.Sum(key[:], ones), 1}
	for _, seed := range [][]byte{nil, {}} {
		if got := stateOf(New(seed)); got != want {
			t.Errorf("New(%#v) is %v, want %v", seed, got, want)
		}
	}
}

// P7.1: with a seed it has gone through both.
func TestNewOfOneByte(t *testing.T) {
	for b := range 256 {
		ones := bytes.Repeat([]byte{1}, 32)
		key := mac.Sum(make([]byte, 32), append(slices.Clone(ones), 0, byte(b)))
		v := mac.Sum(key[:], ones)
		key = mac.Sum(key[:], append(v[:], 1, byte(b)))
		want := state{key, mac.Sum(key[:], v[:]), 1}
		if got := stateOf(New([]byte{byte(b)})); got != want {
			t.Errorf("New of the byte %d is %v, want %v", b, got, want)
		}
	}
}

// P7.1: each length of the seed; zero bytes and ones too.
func TestNewFollowsItsWording(t *testing.T) {
	s := source(81)
	for length := range 250 {
		for _, seed := range [][]byte{s.bytes(length), make([]byte, length), bytes.Repeat([]byte{1}, length)} {
			if got, want := stateOf(New(seed)), newByWording(seed).state(); got != want {
				t.Fatalf("New(%x) is %v, want %v", seed, got, want)
			}
		}
	}
}

// P7.1: great seeds.
func TestGreatSeeds(t *testing.T) {
	s := source(82)
	for _, length := range []int{api.MaxText, 1 << 16, 1<<20 + 1} {
		seed, again := s.bytes(length), s.bytes(length)
		d, w := New(seed), newByWording(seed)
		d.Reseed(again)
		w.reseed(again)
		if stateOf(d) != w.state() {
			t.Errorf("seeds of %d bytes are not mixed in as the chapter words it", length)
		}
		drawByWording(t, d, w, 70, seed)
	}
}

// P7.1: no bit of a seed goes unheard, neither at the beginning nor later, and no zero byte.
func TestSeedsAreHeard(t *testing.T) {
	s := source(83)
	first := s.drawer(5)
	for _, seeded := range []func(b []byte) state{
		func(b []byte) state { return stateOf(New(b)) },
		func(b []byte) state { d := first.Clone(); d.Reseed(b); return stateOf(d) },
	} {
		seen := map[state]int{}
		hear := func(name int, b []byte) {
			got := seeded(b)
			if other, taken := seen[got]; taken {
				t.Errorf("seeds %d and %d lead to the same state", other, name)
			}
			seen[got] = name
		}
		seed := s.bytes(70)
		for i := range 8 * len(seed) {
			seed[i/8] ^= 1 << (i % 8)
			hear(i, seed)
			seed[i/8] ^= 1 << (i % 8)
		}
		for length := range 70 {
			hear(1000+length, make([]byte, length))
			hear(2000+length, seed[:length+1])
		}
	}
}

// P7.1: from any state, by each length; the counter is 1 again, wherever it was.
func TestReseedFollowsItsWording(t *testing.T) {
	s := source(84)
	for _, count := range chosenCounts() {
		for _, length := range chosenLengths() {
			b := s.bytes(length)
			d := s.drawer(count)
			w := wordingOf(d)
			d.Reseed(b)
			w.reseed(b)
			if stateOf(d) != w.state() || w.count != 1 {
				t.Fatalf("the counter %d, %d bytes: %v, want %v", count, length, stateOf(d), w.state())
			}
			drawByWording(t, d, w, 40, nil)
		}
	}
}

// P7.1: with nothing to mix in a source goes on all the same; nil or not.
func TestReseedWithNothing(t *testing.T) {
	s := source(85)
	for _, b := range [][]byte{nil, {}} {
		d := s.drawer(9)
		before := stateOf(d)
		key := mac.Sum(before.key[:], append(before.v[:], 0))
		want := state{key, mac.Sum(key[:], before.v[:]), 1}
		if d.Reseed(b); stateOf(d) != want {
			t.Errorf("Reseed(%#v) leads to %v, want %v", b, stateOf(d), want)
		}
	}
}

// P7.1: what was before goes on to count: neither the key nor V is forgotten.
func TestReseedKeepsWhatWas(t *testing.T) {
	s := source(86)
	key, v, b := s.sum(), s.sum(), s.bytes(32)
	seen := map[state]int{}
	for i := range 512 {
		key, v := key, v
		if i < 256 {
			key[i/8] ^= 1 << (i % 8)
		} else {
			v[(i-256)/8] ^= 1 << (i % 8)
		}
		d := Of(key, v, 1)
		d.Reseed(b)
		if other, taken := seen[stateOf(d)]; taken {
			t.Fatalf("bits %d and %d lead to the same state", other, i)
		}
		seen[stateOf(d)] = i
	}
	once, twice := New(b), New(b)
	twice.Reseed(b)
	if stateOf(once) == stateOf(twice) {
		t.Error("a second seed leads to the state of the first one")
	}
}

// P7.2: the chapter's examples.
func TestDrawsOfTheChaptersExamples(t *testing.T) {
	a, b := New([]byte("a")), New([]byte("a"))
	if !bytes.Equal(draw(t, a, 8, nil), draw(t, b, 8, nil)) {
		t.Error("the same seed leads to other bytes")
	}
	before := stateOf(a)
	for _, n := range []int{257, -1} {
		if got, code := a.Draw(n, nil); got != nil || code != api.ErrArg || stateOf(a) != before {
			t.Errorf("Draw(%d) = %x, %d", n, got, code)
		}
	}
	draw(t, a, 0, nil)
	if after := stateOf(a); after.key == before.key || after.v == before.v || after.count != 3 {
		t.Errorf("Draw(0) leads from %v to %v", before, after)
	}
}

// P7.2: each number of bytes, by more of many lengths; draw after draw of one source.
func TestDrawOfEachNumberOfBytes(t *testing.T) {
	s := source(87)
	for _, seed := range []int{0, 1, 48} {
		b := s.bytes(seed)
		d, w := New(b), newByWording(b)
		for n := range 257 {
			drawByWording(t, d, w, n, s.bytes(n*7%90))
			drawByWording(t, d, w, 256-n, nil)
		}
		if stateOf(d).count != 515 {
			t.Errorf("after 514 draws the counter is %d", stateOf(d).count)
		}
	}
}

// P7.2: the numbers of bytes about whole sums, by more of each chosen length, from any state.
func TestDrawFollowsItsWording(t *testing.T) {
	s := source(88)
	for _, n := range []int{0, 1, 8, 31, 32, 33, 63, 64, 65, 95, 96, 97, 224, 255, 256} {
		for _, length := range chosenLengths() {
			d := s.drawer(1 + n)
			drawByWording(t, d, wordingOf(d), n, s.bytes(length))
			d = s.drawer(1 + n)
			drawByWording(t, d, wordingOf(d), n, make([]byte, length))
		}
	}
}

// P7.2: no more than 256 bytes and no fewer than none, whatever else is wrong; nothing changes.
func TestDrawOfWrongNumbersOfBytes(t *testing.T) {
	s := source(89)
	for _, n := range []int{-1, -2, -32, -256, math.MinInt32, math.MinInt, 257, 258, 288, 512, 1 << 20, 1 << 32, math.MaxInt32, math.MaxInt} {
		for _, count := range chosenCounts() {
			for _, more := range [][]byte{nil, {}, s.bytes(20)} {
				d := s.drawer(count)
				before := stateOf(d)
				if got, code := d.Draw(n, more); got != nil || code != api.ErrArg {
					t.Errorf("Draw(%d, %x) at the counter %d: %d bytes, error %d, want ErrArg", n, more, count, len(got), code)
				}
				if stateOf(d) != before {
					t.Errorf("Draw(%d, %x) at the counter %d changes the state", n, more, count)
				}
			}
		}
	}
}

// P7.2: from the counter 2^20 + 1 on there are no bytes, not even none; nothing changes, until there is a new seed.
func TestDrawOfAnOldSeed(t *testing.T) {
	s := source(90)
	for _, count := range chosenCounts() {
		for _, n := range []int{0, 1, 32, 256} {
			for _, more := range [][]byte{nil, {}, s.bytes(20)} {
				d := s.drawer(count)
				drawByWording(t, d, wordingOf(d), n, more)
				drawByWording(t, d, wordingOf(d), n, more)
				if count <= 1<<20 {
					continue
				}
				if got, code := d.Draw(n, more); got != nil || code != api.ErrSeed {
					t.Errorf("Draw(%d, %x) at the counter %d: %x, error %d, want ErrSeed", n, more, count, got, code)
				}
				d.Reseed(more)
				draw(t, d, n, more)
			}
		}
	}
}

// P7.2: the last draws of a seed are counted one by one.
func TestDrawsUpToTheLastOne(t *testing.T) {
	const left = 1000
	d := New([]byte("seed"))
	key, v, _ := d.State()
	d = Of(key, v, api.MaxDraws-left+1)
	for i := range left {
		draw(t, d, i%257, nil)
	}
	if _, _, count := d.State(); count != api.MaxDraws+1 {
		t.Errorf("after the last draw the counter is %d", count)
	}
	for _, n := range []int{0, 1, 256} {
		if got, code := d.Draw(n, nil); got != nil || code != api.ErrSeed {
			t.Errorf("Draw(%d) beyond the last draw: %x, error %d", n, got, code)
		}
	}
}

// P7.2: fewer bytes are the first ones of more, and the state afterwards is that after as many sums.
func TestFewerBytesBeginMore(t *testing.T) {
	s := source(91)
	for _, more := range [][]byte{nil, s.bytes(10)} {
		first := s.drawer(1)
		all := draw(t, first.Clone(), 256, more)
		after := map[int]state{}
		for n := range 257 {
			d := first.Clone()
			if got := draw(t, d, n, more); !bytes.Equal(got, all[:n]) {
				t.Fatalf("%d bytes: %x, want %x", n, got, all[:n])
			}
			sums := (n + 31) / 32
			if other, known := after[sums]; known && other != stateOf(d) {
				t.Errorf("%d bytes lead to another state than others of %d sums", n, sums)
			}
			after[sums] = stateOf(d)
		}
		seen := map[state]int{}
		for sums, one := range after {
			seen[one] = sums
		}
		if len(seen) != 9 {
			t.Errorf("none to eight sums lead to %d states", len(seen))
		}
	}
}

// P7.2: after a draw the source is another, so that two draws are not one.
func TestTwoDrawsAreNotOne(t *testing.T) {
	first := New([]byte("seed"))
	all := draw(t, first.Clone(), 64, nil)
	d := first.Clone()
	if b := draw(t, d, 32, nil); !bytes.Equal(b, all[:32]) || bytes.Equal(draw(t, d, 32, nil), all[32:]) {
		t.Error("a draw of 64 bytes is two of 32")
	}
}

// P7.2: no bytes are drawn twice.
func TestBytesDoNotComeAgain(t *testing.T) {
	d := New([]byte("seed"))
	seen := map[api.Sum]int{}
	for i := range 300 {
		b := draw(t, d, 256, nil)
		for part := range 8 {
			sum := api.Sum(b[32*part:])
			if other, taken := seen[sum]; taken {
				t.Fatalf("draws %d and %d have the same bytes", other, i)
			}
			seen[sum] = i
		}
	}
}

// P7.2: no bit of what is mixed in goes unheard, neither in the bytes nor in the state afterwards; nil and empty are one.
func TestDrawHearsMore(t *testing.T) {
	s := source(92)
	first := s.drawer(1)
	bytesSeen, statesSeen := map[string]int{}, map[state]int{}
	hear := func(name int, more []byte) {
		d := first.Clone()
		b := string(draw(t, d, 32, more))
		if other, taken := bytesSeen[b]; taken {
			t.Errorf("%d and %d draw the same bytes", other, name)
		}
		if other, taken := statesSeen[stateOf(d)]; taken {
			t.Errorf("%d and %d lead to the same state", other, name)
		}
		bytesSeen[b], statesSeen[stateOf(d)] = name, name
	}
	more := s.bytes(50)
	for i := range 8 * len(more) {
		more[i/8] ^= 1 << (i % 8)
		hear(i, more)
		more[i/8] ^= 1 << (i % 8)
	}
	for length := range 50 {
		hear(1000+length, make([]byte, length))
	}
	a, b := first.Clone(), first.Clone()
	if !bytes.Equal(draw(t, a, 32, nil), draw(t, b, 32, []byte{})) || stateOf(a) != stateOf(b) {
		t.Error("nil and empty are told apart")
	}
}

// P7.2: mixed in ahead of the bytes and behind them, whole each time.
func TestMoreIsMixedInTwice(t *testing.T) {
	s := source(93)
	d, more := s.drawer(7), s.bytes(32)
	ahead := d.Clone()
	ahead.Reseed(more)
	if !bytes.Equal(draw(t, ahead.Clone(), 20, nil), draw(t, d.Clone(), 20, more)) {
		t.Error("the bytes are not those after mixing in")
	}
	behind := ahead.Clone()
	behind.Reseed(more)
	draw(t, d, 0, more)
	a, b := stateOf(d), stateOf(behind)
	if a.key != b.key || a.v != b.v || a.count != 8 {
		t.Errorf("a draw of no bytes leads to %v, want the key and V of %v and the counter 8", a, b)
	}
}

// P7.1, P7.2: a long life of one source, with draws, wrong draws and seeds in any order.
func TestALongLifeFollowsItsWording(t *testing.T) {
	s := source(94)
	d, w := New([]byte("life")), newByWording([]byte("life"))
	for i := range 3000 {
		b := s.bytes(int(s.next()) % 80)
		switch s.next() % 16 {
		case 0:
			d.Reseed(b)
			w.reseed(b)
		case 1:
			drawByWording(t, d, w, 257+int(s.next()), b)
		case 2:
			drawByWording(t, d, w, -1-int(s.next()), b)
		case 3:
			drawByWording(t, d, w, 256, nil)
		default:
			drawByWording(t, d, w, int(s.next()), b)
		}
		if stateOf(d) != w.state() {
			t.Fatalf("after %d steps the state is %v, want %v", i+1, stateOf(d), w.state())
		}
	}
}

// P7.3: what Of is given State gives, whatever it is, and as often as it is asked.
func TestOfAndState(t *testing.T) {
	s := source(95)
	for _, count := range chosenCounts() {
		for _, want := range []state{{s.sum(), s.sum(), count}, {count: count}, {key: s.sum(), count: count}, {v: s.sum(), count: count}} {
			d := Of(want.key, want.v, count)
			for range 3 {
				if got := stateOf(d); got != want {
					t.Errorf("Of(%v) is %v", want, got)
				}
			}
		}
	}
}

// P7.3: to ask for the state changes nothing.
func TestStateOnlyTells(t *testing.T) {
	a, b := New([]byte("seed")), New([]byte("seed"))
	for n := range 50 {
		a.State()
		if !bytes.Equal(draw(t, a, n, nil), draw(t, b, n, nil)) {
			t.Fatalf("draw %d is another if the state was asked for", n)
		}
		a.State()
	}
}

// P7.3: a key and a V that are told stay as they are, and what the caller does with them is not seen.
func TestAStateIsTheCallers(t *testing.T) {
	d := New([]byte("seed"))
	key, v, _ := d.State()
	wantKey, wantV := key, v
	draw(t, d, 40, nil)
	d.Reseed([]byte("again"))
	if key != wantKey || v != wantV {
		t.Error("a state that was told changes")
	}
	want := stateOf(d)
	key, v, _ = d.State()
	key[0], v[0] = ^key[0], ^v[0]
	if stateOf(d) != want {
		t.Error("what the caller does with a state is seen")
	}
}

// P7.3: a clone is in the same state, wherever the counter is.
func TestCloneIsInTheSameState(t *testing.T) {
	s := source(96)
	for _, count := range chosenCounts() {
		d := s.drawer(count)
		before := stateOf(d)
		c := d.Clone()
		if c == d || stateOf(c) != before || stateOf(d) != before {
			t.Errorf("the clone of %v is %v, and the source %v", before, stateOf(c), stateOf(d))
		}
		drawByWording(t, c, wordingOf(d), 100, []byte("more"))
		drawByWording(t, c.Clone(), wordingOf(c), 100, []byte("more"))
	}
}

// P7.3: each of the calls that change something, on either of the two, isn't seen in the other.
func TestClonesAreIndependent(t *testing.T) {
	changes := []func(s *Source){
		func(s *Source) { s.Reseed(nil) },
		func(s *Source) { s.Reseed([]byte("seed")) },
		func(s *Source) { s.Draw(0, nil) },
		func(s *Source) { s.Draw(256, nil) },
		func(s *Source) { s.Draw(5, []byte("more")) },
	}
	for i, change := range changes {
		d := New([]byte("first"))
		draw(t, d, 10, nil)
		want := stateOf(d)
		c := d.Clone()
		change(d)
		if stateOf(d) == want {
			t.Errorf("change %d of the source changes nothing", i)
		}
		if stateOf(c) != want {
			t.Errorf("change %d of the source is seen in the clone", i)
		}
		changed := stateOf(d)
		grandchild := c.Clone()
		change(c)
		if stateOf(c) != changed || stateOf(d) != changed {
			t.Errorf("change %d of the clone is another, or seen in the source", i)
		}
		if stateOf(grandchild) != want {
			t.Errorf("change %d of the clone is seen in its own clone", i)
		}
	}
}

// P7.1, P7.3: two sources don't hear one another, however they came to be.
func TestSourcesDoNotHearOneAnother(t *testing.T) {
	s := source(97)
	seed := s.bytes(32)
	alone, w := New(seed), newByWording(seed)
	for i := range 40 {
		other := New(s.bytes(i))
		draw(t, other, 100, seed)
		other.Reseed(seed)
		draw(t, Of(s.sum(), s.sum(), i), i, nil)
		draw(t, New(seed), 100, nil)
		draw(t, alone.Clone(), i, seed)
		alone.Draw(-1, seed)
		drawByWording(t, alone, w, 2*i, seed[:i%32])
	}
}

// P7.4: at each point of a source's life one that is made of its state goes on the same, and neither hears the other.
func TestOfAStateGoesOnTheSame(t *testing.T) {
	s := source(98)
	d := New(s.bytes(48))
	for i := range 60 {
		copied := Of(d.State())
		want := stateOf(d)
		var wanted []string
		for n := range 5 {
			wanted = append(wanted, string(draw(t, copied, 40*n+i, []byte{byte(i)})))
		}
		if stateOf(d) != want {
			t.Fatal("what is made of a state changes the source")
		}
		original := d.Clone()
		for n, b := range wanted {
			if got := draw(t, original, 40*n+i, []byte{byte(i)}); string(got) != b {
				t.Fatalf("draw %d after %d steps: %x, want %x", n, i, b, got)
			}
		}
		if stateOf(original) != stateOf(copied) {
			t.Fatalf("after %d steps: the states part", i)
		}
		if draw(t, d, i, nil); i%10 == 9 {
			d.Reseed(s.bytes(i))
		}
	}
}

// P7.4: up to the last draw of a seed, and beyond it.
func TestOfAStateEndsTheSame(t *testing.T) {
	s := source(99)
	d := s.drawer(api.MaxDraws - 3)
	for range 8 {
		copied := Of(d.State())
		got, code := copied.Draw(33, nil)
		want, wantCode := d.Draw(33, nil)
		if !bytes.Equal(got, want) || code != wantCode || stateOf(copied) != stateOf(d) {
			t.Errorf("%x, %d, want %x, %d", got, code, want, wantCode)
		}
	}
	if _, code := Of(d.State()).Draw(1, nil); code != api.ErrSeed {
		t.Errorf("the copy of an old source gives the error %d", code)
	}
}

// roomy is b with spare capacity behind it, and that memory as a whole.
func roomy(s *source, b []byte) (front, whole []byte) {
	whole = append(slices.Clone(b), s.bytes(200)...)
	return whole[:len(b)], whole
}

// P7.1, P7.2: neither the arguments nor the spare capacity behind them are changed, and the spare bytes don't count.
func TestArgumentsAreLeftAlone(t *testing.T) {
	s := source(100)
	for _, length := range chosenLengths() {
		plainSeed, plainMore := s.bytes(length), s.bytes(1000-length)
		seed, seedWhole := roomy(&s, plainSeed)
		more, moreWhole := roomy(&s, plainMore)
		before := string(slices.Concat(seedWhole, moreWhole))
		d, w := New(seed), newByWording(plainSeed)
		drawByWording(t, d, w, 100, more)
		d.Reseed(more)
		w.reseed(plainMore)
		drawByWording(t, d, w, 100, seed)
		d.Draw(-1, more)
		d.Draw(257, more)
		if string(slices.Concat(seedWhole, moreWhole)) != before {
			t.Errorf("a seed of %d bytes: what was given is changed", length)
		}
	}
}

// P7.1, P7.2: what the caller does with an argument afterwards is not seen.
func TestArgumentsAreNotKept(t *testing.T) {
	s := source(101)
	for _, length := range []int{1, 31, 32, 33, 64, 100} {
		b := s.bytes(length)
		d, w := New(b), newByWording(b)
		clear(b)
		drawByWording(t, d, w, 70, nil)
		b = s.bytes(length)
		d.Reseed(b)
		w.reseed(b)
		clear(b)
		drawByWording(t, d, w, 70, nil)
		b = s.bytes(length)
		drawByWording(t, d, w, 70, b)
		clear(b)
		drawByWording(t, d, w, 70, nil)
	}
}

// P7.2: a result is new memory; what the caller does with it, to its whole capacity, is not seen in the source nor in what was mixed in.
func TestDrawnBytesAreTheCallers(t *testing.T) {
	s := source(102)
	d := New([]byte("seed"))
	w := wordingOf(d)
	for n := range 257 {
		plain := s.bytes(n)
		more := slices.Clone(plain)
		got := draw(t, d, n, more)
		w.draw(n, plain)
		whole := got[:cap(got)]
		for i := range whole {
			whole[i] ^= 0xff
		}
		if stateOf(d) != w.state() || !bytes.Equal(more, plain) {
			t.Fatalf("%d bytes: a result shares memory", n)
		}
	}
}

// P7.2: bytes that were given out stay as they are, whatever is asked later.
func TestDrawnBytesStay(t *testing.T) {
	d := New([]byte("seed"))
	var results [][]byte
	var copies []string
	for n := range 257 {
		b := draw(t, d, n, nil)
		results, copies = append(results, b), append(copies, string(b))
	}
	d.Reseed([]byte("again"))
	for n, b := range results {
		if string(b) != copies[n] {
			t.Errorf("%d bytes: a later call changes them", n)
		}
	}
}

// P7.2: behind the bytes that are given out there are none that were not.
func TestNoBytesBehindThoseDrawn(t *testing.T) {
	first := New([]byte("seed"))
	all := string(draw(t, first.Clone(), 256, nil))
	for n := range 256 {
		b := draw(t, first.Clone(), n, nil)
		keptBack := all[n : (n+31)/32*32]
		if rest := string(b[n:cap(b)]); keptBack != "" && strings.HasPrefix(rest, keptBack) {
			t.Errorf("%d bytes: behind them there is %x", n, rest)
		}
	}
}

// P7.2: a source of zero bytes draws too, and counts on from 0.
func TestDrawOfTheZeroState(t *testing.T) {
	for _, length := range chosenLengths() {
		d := Of(api.Sum{}, api.Sum{}, 0)
		drawByWording(t, d, wordingOf(d), 0, make([]byte, length))
		drawByWording(t, d, wordingOf(d), 256, make([]byte, length))
		if _, _, count := d.State(); count != 2 {
			t.Errorf("after two draws the counter that began at 0 is %d", count)
		}
	}
}
