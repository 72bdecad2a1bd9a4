package vault

import (
	"bytes"
	"crypto/aes"
	"crypto/cipher"
	"crypto/hkdf"
	"crypto/sha256"
	"encoding/hex"
	"math"
	"math/big"
	"slices"
	"testing"

	"strongroom/api"
	"strongroom/gcm"
	"strongroom/mac"
)

func bytesOf(t *testing.T, digits string) []byte {
	t.Helper()
	b, err := hex.DecodeString(digits)
	if err != nil {
		t.Fatalf("%q is not in hexadecimal", digits)
	}
	return b
}

// source gives bytes without a pattern, the same ones in each run.
type source uint32

func (s *source) next() byte {
	*s = *s*1664525 + 1013904223
	return byte(*s >> 24)
}

func (s *source) bytes(length int) []byte {
	b := make([]byte, length)
	for i := range b {
		b[i] = s.next()
	}
	return b
}

// number is a number of so many bytes.
func (s *source) number(size int) int {
	n := 0
	for range size {
		n = n<<8 | int(s.next())
	}
	return n
}

// spot is where something is sealed: a domain and a position in it.
type spot struct{ domain, term, index int }

func (s *source) spot() spot { return spot{s.number(1), s.number(5), s.number(5)} }

func nonceAt(p spot) (api.Nonce, api.Errno) { return Nonce(p.domain, p.term, p.index) }

func sealAt(master api.Key, p spot, text []byte) ([]byte, api.Errno) {
	return Seal(master, p.domain, p.term, p.index, text)
}

func openAt(master api.Key, p spot, sealed []byte) ([]byte, api.Errno) {
	return Open(master, p.domain, p.term, p.index, sealed)
}

// masters are the keys of zero bytes, of the bytes from 0 on, of full bytes, and one without a pattern.
func masters() []api.Key {
	var counted, full api.Key
	for i := range counted {
		counted[i], full[i] = byte(i), 0xff
	}
	s := source(120)
	return []api.Key{{}, counted, full, api.Key(s.bytes(32))}
}

// domainsAbout are the first domains and the last ones, and those at which a byte taken for a number with a sign would change.
func domainsAbout() []int { return []int{0, 1, 2, 3, 10, 32, 127, 128, 254, 255} }

// positionsAbout are valid ones about each byte's edge, up to the last.
func positionsAbout() []int {
	l := []int{0, 2, 1 << 31, 1<<39 - 1, 1 << 39, 1<<40 - 2, 1<<40 - 1}
	for shift := 8; shift < 40; shift += 8 {
		l = append(l, 1<<shift-1, 1<<shift)
	}
	return append(l, 1)
}

func wrongDomains() []int {
	return []int{
		-1, -2, -127, -128, -255, -256, -257, math.MinInt32, -1 << 40, math.MinInt + 1, math.MinInt,
		256, 257, 511, 512, 1 << 16, 1<<16 + 1, math.MaxInt32, 1 << 32, 1<<32 + 1, 1<<40 - 1, 1 << 40, math.MaxInt - 255, math.MaxInt,
	}
}

func wrongPositions() []int {
	return []int{
		-1, -2, -255, -256, math.MinInt32, -1<<40 + 1, -1 << 40, -1<<40 - 1, -1 << 48, math.MinInt + 1, math.MinInt,
		1 << 40, 1<<40 + 1, 1<<40 + 255, 1<<41 - 1, 1 << 41, 1<<48 - 1, 1 << 48, 1<<48 + 1, 1 << 56, 1 << 62, math.MaxInt - 1, math.MaxInt,
	}
}

// spotsAbout are all of the chosen domains, terms and indexes with one another.
func spotsAbout() []spot {
	var l []spot
	for _, domain := range domainsAbout() {
		for _, term := range positionsAbout() {
			for _, index := range positionsAbout() {
				l = append(l, spot{domain, term, index})
			}
		}
	}
	return l
}

// wrongSpots have one, two or three parts that are not valid, beside valid ones at their edges.
func wrongSpots() []spot {
	var l []spot
	for _, domain := range wrongDomains() {
		l = append(l, spot{domain, 0, 0}, spot{domain, 1<<40 - 1, 1<<40 - 1}, spot{domain, -1, 0}, spot{domain, 0, 1 << 40}, spot{domain, -1, -1})
	}
	for _, wrong := range wrongPositions() {
		for _, domain := range []int{0, 1, 255} {
			l = append(l, spot{domain, wrong, 0}, spot{domain, wrong, 1<<40 - 1}, spot{domain, wrong, wrong})
			l = append(l, spot{domain, 0, wrong}, spot{domain, 1<<40 - 1, wrong})
		}
	}
	return l
}

// keyByWording is the domain's key by the library's HKDF.
func keyByWording(t *testing.T, master api.Key, domain int) api.Key {
	t.Helper()
	info := "strongroom " + string([]byte{byte(domain)})
	b, err := hkdf.Expand(sha256.New, master[:], info, 32)
	if err != nil {
		t.Fatal(err)
	}
	return api.Key(b)
}

// nonceByWording takes the whole nonce for one number of twelve bytes: the domain ahead of eleven, the term of six.
func nonceByWording(p spot) api.Nonce {
	part := func(n int, bytesBehind uint) *big.Int {
		return new(big.Int).Lsh(big.NewInt(int64(n)), 8*bytesBehind)
	}
	whole := part(p.domain, 11)
	whole.Add(whole, part(p.term, 6))
	whole.Add(whole, part(p.index, 0))
	var n api.Nonce
	whole.FillBytes(n[:])
	return n
}

// sealByWording seals by the library's GCM, with any bytes beside the text.
func sealByWording(t *testing.T, master api.Key, p spot, beside, text []byte) []byte {
	t.Helper()
	k, n := keyByWording(t, master, p.domain), nonceByWording(p)
	c, err := aes.NewCipher(k[:])
	if err != nil {
		t.Fatal(err)
	}
	g, err := cipher.NewGCM(c)
	if err != nil {
		t.Fatal(err)
	}
	return g.Seal(nil, n[:], text, beside)
}

func seal(t *testing.T, master api.Key, p spot, text []byte) []byte {
	t.Helper()
	sealed, e := sealAt(master, p, text)
	if e != api.OK {
		t.Fatalf("Seal of %d bytes at %v: error %d", len(text), p, e)
	}
	return sealed
}

func open(t *testing.T, master api.Key, p spot, sealed []byte) []byte {
	t.Helper()
	text, e := openAt(master, p, sealed)
	if e != api.OK {
		t.Fatalf("Open of %d bytes at %v: error %d", len(sealed), p, e)
	}
	return text
}

// mustRefuse opens what can't be opened there.
func mustRefuse(t *testing.T, what string, master api.Key, p spot, sealed []byte, want api.Errno) {
	t.Helper()
	if text, e := openAt(master, p, sealed); e != want || text != nil {
		t.Errorf("%s: Open at %v gives %d bytes and error %d, want error %d", what, p, len(text), e, want)
	}
}

// P12.1: keys that another program worked out, written down: of domains at both edges, and of 32, which is a space as a byte.
func TestKeysWrittenDown(t *testing.T) {
	zero, counted, full := masters()[0], masters()[1], masters()[2]
	cases := []struct {
		master api.Key
		domain int
		want   string
	}{
		{zero, 0, "5f3ab4d1b6cb871b0bc5f57b8984ccdb12686b1019b2fd4cf33cbe7d5b681943"},
		{zero, 1, "5cbee86e9c7b91d41f8274e7be1cf7fa095525d3731a4e891a77e758a4cc98ce"},
		{zero, 255, "be859153654a3e2ef26caddfe28fe45c666f94c995696aac80c825dd99f01d3e"},
		{counted, 0, "fb694ecd0c182c3090ac57d5bcefcf02bcc390c117d5f45ac3a8ec12748725f8"},
		{counted, 1, "2667709db4658048fade2f5be213755f7f3a323c6d0379c576752ae84296fd37"},
		{counted, 2, "672306261a2a40c48ebb6118bc3fd2b3d79048c5c01c6539559c3b2b8e33bfb6"},
		{full, 32, "da738640263f42f6af82ef07d71a18b48ccdb2f866adadb883508c202636e67d"},
	}
	for _, c := range cases {
		got, e := Key(c.master, c.domain)
		if e != api.OK || got != api.Key(bytesOf(t, c.want)) {
			t.Errorf("Key(%x, %d) = %x, error %d, want %s", c.master, c.domain, got, e, c.want)
		}
	}
}

// P12.1: each domain, against the library and against package mac, as the chapter words it.
func TestKeyOfEachDomain(t *testing.T) {
	for _, master := range masters() {
		for domain := range 256 {
			got, e := Key(master, domain)
			if want := keyByWording(t, master, domain); e != api.OK || got != want {
				t.Fatalf("Key(%x, %d) = %x, error %d, want %x", master, domain, got, e, want)
			}
			expanded, _ := mac.Expand(master[:], append([]byte("strongroom "), byte(domain)), 32)
			if !bytes.Equal(got[:], expanded) {
				t.Fatalf("Key(%x, %d) = %x, and by mac.Expand %x", master, domain, got, expanded)
			}
		}
	}
}

// P12.1: no two domains have one key, nor two master keys that differ in a bit.
func TestKeysDiffer(t *testing.T) {
	seen := map[api.Key]int{}
	look := func(number int, master api.Key, domain int) {
		key, e := Key(master, domain)
		if other, taken := seen[key]; taken || e != api.OK {
			t.Fatalf("case %d has the key of case %d, error %d", number, other, e)
		}
		seen[key] = number
	}
	master := masters()[3]
	for domain := range 256 {
		look(domain, master, domain)
	}
	for bit := range 256 {
		other := master
		other[bit/8] ^= 1 << (bit % 8)
		look(1000+bit, other, 7)
	}
	if _, taken := seen[master]; taken {
		t.Error("a domain's key is the master key")
	}
}

// P12.1: a domain that is none has no key (rule R2).
func TestKeyOfWrongDomains(t *testing.T) {
	for _, master := range masters() {
		for _, domain := range wrongDomains() {
			if key, e := Key(master, domain); e != api.ErrArg || key != (api.Key{}) {
				t.Errorf("Key(%x, %d) = %x, error %d, want ErrArg alone", master, domain, key, e)
			}
		}
	}
}

// P12.1: nonces written down; the first is the chapter's example.
func TestNoncesWrittenDown(t *testing.T) {
	cases := []struct {
		at   spot
		want string
	}{
		{spot{1, 2, 3}, "010000000002000000000003"},
		{spot{0, 0, 0}, "000000000000000000000000"},
		{spot{255, 0, 0}, "ff0000000000000000000000"},
		{spot{0, 1<<40 - 1, 0}, "00ffffffffff000000000000"},
		{spot{0, 0, 1<<40 - 1}, "00000000000000ffffffffff"},
		{spot{255, 1<<40 - 1, 1<<40 - 1}, "ffffffffffff00ffffffffff"},
		{spot{7, 0x0102030405, 0x060708090a}, "07010203040500060708090a"},
		{spot{0x80, 0x8000000000, 0x8000000000}, "808000000000008000000000"},
	}
	for _, c := range cases {
		if got, e := nonceAt(c.at); e != api.OK || got != api.Nonce(bytesOf(t, c.want)) {
			t.Errorf("Nonce at %v = %x, error %d, want %s", c.at, got, e, c.want)
		}
	}
}

// P12.1: against the chapter's wording, about all edges and at many other places.
func TestNonceFollowsItsWording(t *testing.T) {
	s := source(121)
	l := spotsAbout()
	for range 2000 {
		l = append(l, s.spot())
	}
	for _, p := range l {
		if got, e := nonceAt(p); e != api.OK || got != nonceByWording(p) {
			t.Fatalf("Nonce at %v = %x, error %d, want %x", p, got, e, nonceByWording(p))
		}
	}
}

// P12.1: each bit of the three numbers has its own place in the nonce, and the index's first byte none.
func TestNonceOfSingleBits(t *testing.T) {
	look := func(p spot, at, bit int) {
		t.Helper()
		var want api.Nonce
		want[at-bit/8] = 1 << (bit % 8)
		if got, e := nonceAt(p); e != api.OK || got != want {
			t.Errorf("Nonce at %v = %x, error %d, want %x", p, got, e, want)
		}
	}
	for bit := range 8 {
		look(spot{domain: 1 << bit}, 0, bit)
	}
	for bit := range 40 {
		look(spot{term: 1 << bit}, 5, bit)
		look(spot{index: 1 << bit}, 11, bit)
	}
}

// P12.1: one part that is not valid is enough, whatever the others are; beside the error the nonce is zero (rule R2).
func TestNonceOfWrongSpots(t *testing.T) {
	for _, p := range wrongSpots() {
		if got, e := nonceAt(p); e != api.ErrArg || got != (api.Nonce{}) {
			t.Errorf("Nonce at %v = %x, error %d, want ErrArg alone", p, got, e)
		}
	}
}

// P12.1, P12.2: the last valid number and the first one that is not, for each part and each call.
func TestTheEdgesOfEachPart(t *testing.T) {
	master := masters()[1]
	cases := []struct {
		at   spot
		want api.Errno
	}{
		{spot{-1, 5, 5}, api.ErrArg}, {spot{0, 5, 5}, api.OK}, {spot{255, 5, 5}, api.OK}, {spot{256, 5, 5}, api.ErrArg},
		{spot{5, -1, 5}, api.ErrArg}, {spot{5, 0, 5}, api.OK}, {spot{5, 1<<40 - 1, 5}, api.OK}, {spot{5, 1 << 40, 5}, api.ErrArg},
		{spot{5, 5, -1}, api.ErrArg}, {spot{5, 5, 0}, api.OK}, {spot{5, 5, 1<<40 - 1}, api.OK}, {spot{5, 5, 1 << 40}, api.ErrArg},
	}
	for _, c := range cases {
		if _, e := nonceAt(c.at); e != c.want {
			t.Errorf("Nonce at %v: error %d, want %d", c.at, e, c.want)
		}
		if _, e := sealAt(master, c.at, []byte("text")); e != c.want {
			t.Errorf("Seal at %v: error %d, want %d", c.at, e, c.want)
		}
		wantOpen := c.want
		if wantOpen == api.OK {
			wantOpen = api.ErrForged
		}
		mustRefuse(t, "16 zero bytes", master, c.at, make([]byte, 16), wantOpen)
	}
}

// P12.2: what another program sealed, written down.
func TestSealedTextsWrittenDown(t *testing.T) {
	zero, counted, full := masters()[0], masters()[1], masters()[2]
	cases := []struct {
		master       api.Key
		at           spot
		text, sealed string
	}{
		{zero, spot{0, 0, 0}, "", "9b363d7cec358963c5af5b8690c36f93"},
		{zero, spot{7, 0x0102030405, 0x060708090a}, "", "710fc375e6cc05729040b4f12e165ef5"},
		{counted, spot{1, 2, 3}, "text", "b663bd06ca2bb2927c0b7e8f746a864057971c99"},
		{counted, spot{2, 2, 3}, "text", "4a859a9cec60eeb6991b300fd330eb329b2a6e86"},
		{counted, spot{1, 2, 3}, "sixteen bytes, a", "b16fbd063ebd62a11bc91267218b15a3100170b223d0a8bc0a3d86cc480ecfd7"},
		{full, spot{255, 1<<40 - 1, 1<<40 - 1}, "the last position of all, in 40 bytes..", "347724964a789e2ed61f6111fc3535ab76b214013e05b7b5" +
			"89518a738a9d31cd6aeeeb5cf1d12bd317477737bdc3e13dde1fd3b8d9d3fa"},
	}
	for _, c := range cases {
		sealed := bytesOf(t, c.sealed)
		if got := seal(t, c.master, c.at, []byte(c.text)); !bytes.Equal(got, sealed) {
			t.Errorf("Seal of %q at %v = %x, want %s", c.text, c.at, got, c.sealed)
		}
		if got := open(t, c.master, c.at, sealed); string(got) != c.text {
			t.Errorf("Open of %s at %v = %q, want %q", c.sealed, c.at, got, c.text)
		}
	}
}

// P12.2: the chapter's examples of what is refused; nothing is answered beside the error.
func TestSealOfTheExamples(t *testing.T) {
	if n, e := Nonce(256, 0, 0); e != api.ErrArg || n != (api.Nonce{}) {
		t.Errorf("Nonce(256, 0, 0) = %x, error %d", n, e)
	}
	for _, domain := range []int{0, 1, 255} {
		if b, e := Seal(api.Key{}, domain, 1<<40, 0, nil); e != api.ErrArg || b != nil {
			t.Errorf("Seal(.., %d, 2^40, 0, ..) = %x, error %d", domain, b, e)
		}
	}
}

// P12.2: against the library and package gcm, each length up to three blocks, at many places.
func TestSealOfEachLength(t *testing.T) {
	s := source(122)
	for length := range 50 {
		master, p, text := api.Key(s.bytes(32)), s.spot(), s.bytes(length)
		n := nonceByWording(p)
		got := seal(t, master, p, text)
		if want := sealByWording(t, master, p, n[:], text); !bytes.Equal(got, want) {
			t.Fatalf("Seal of %x at %v = %x, want %x", text, p, got, want)
		}
		if want := gcm.Seal(keyByWording(t, master, p.domain), n, n[:], text); !bytes.Equal(got, want) {
			t.Fatalf("Seal of %x at %v = %x, and by gcm.Seal %x", text, p, got, want)
		}
		if got := open(t, master, p, got); !bytes.Equal(got, text) {
			t.Fatalf("Open at %v = %x, want %x", p, got, text)
		}
	}
}

// P12.2: against the library, about the edges of domain, term and index.
func TestSealAboutTheEdges(t *testing.T) {
	s := source(123)
	for i, p := range spotsAbout() {
		master, text := masters()[i%4], s.bytes(i%5)
		n := nonceByWording(p)
		want := sealByWording(t, master, p, n[:], text)
		if got := seal(t, master, p, text); !bytes.Equal(got, want) {
			t.Fatalf("Seal of %x at %v = %x, want %x", text, p, got, want)
		}
		if got := open(t, master, p, want); !bytes.Equal(got, text) {
			t.Fatalf("Open of %x at %v = %x, want %x", want, p, got, text)
		}
	}
}

// P12.2, P12.3: texts longer than anything that is packed: no limit is named.
func TestLongTexts(t *testing.T) {
	s := source(124)
	for _, length := range []int{api.MaxText, api.MaxRecord + 1, 16 * 300} {
		master, p, text := api.Key(s.bytes(32)), s.spot(), s.bytes(length)
		n := nonceByWording(p)
		sealed := seal(t, master, p, text)
		if want := sealByWording(t, master, p, n[:], text); !bytes.Equal(sealed, want) {
			t.Errorf("Seal of %d bytes is not the library's", length)
		}
		if !bytes.Equal(open(t, master, p, sealed), text) {
			t.Errorf("%d bytes are not opened as they were", length)
		}
	}
}

// P12.2: neither call takes a part that is not valid, whatever the bytes are: the error of gcm.Open comes behind (rule R3).
func TestSealAndOpenAtWrongSpots(t *testing.T) {
	master := masters()[3]
	good := seal(t, master, spot{1, 2, 3}, []byte("text"))
	inputs := [][]byte{nil, {}, {1}, make([]byte, 15), make([]byte, 16), good}
	for _, p := range wrongSpots() {
		for _, b := range inputs {
			if sealed, e := sealAt(master, p, b); e != api.ErrArg || sealed != nil {
				t.Errorf("Seal of %d bytes at %v gives %d and error %d, want ErrArg alone", len(b), p, len(sealed), e)
			}
			mustRefuse(t, "a place that is none", master, p, b, api.ErrArg)
		}
	}
}

// P12.2: a place that is taken for a valid one by its lowest bytes must not open what is sealed there.
func TestOpenDoesNotFoldNumbers(t *testing.T) {
	master := masters()[1]
	p := spot{1, 2, 3}
	sealed := seal(t, master, p, []byte("text"))
	for _, x := range []spot{{257, 2, 3}, {-255, 2, 3}, {1, 1<<40 + 2, 3}, {1, 2 - 1<<40, 3}, {1, 2, 1<<48 + 3}, {1, 2, 3 - 1<<48}, {1, 2, 1<<40 + 3}} {
		mustRefuse(t, "a number that folds to a valid one", master, x, sealed, api.ErrArg)
	}
}

// P12.2: what has not even a tag is too short, at each valid place, and one byte more is not.
func TestOpenOfShortBytes(t *testing.T) {
	s := source(125)
	for _, p := range []spot{{0, 0, 0}, {1, 2, 3}, {255, 1<<40 - 1, 1<<40 - 1}} {
		master := api.Key(s.bytes(32))
		sealed := seal(t, master, p, []byte("text"))
		mustRefuse(t, "nil", master, p, nil, api.ErrShort)
		for length := range len(sealed) {
			want := api.ErrForged
			if length < 16 {
				want = api.ErrShort
			}
			mustRefuse(t, "the first bytes", master, p, sealed[:length], want)
		}
	}
}

// P12.2: no byte of what is sealed may be changed, nor taken away, nor added.
func TestOpenOfChangedBytes(t *testing.T) {
	master, p := masters()[3], spot{9, 1 << 33, 77}
	for _, text := range []string{"", "text"} {
		sealed := seal(t, master, p, []byte(text))
		for bit := range 8 * len(sealed) {
			changed := slices.Clone(sealed)
			changed[bit/8] ^= 1 << (bit % 8)
			mustRefuse(t, "a changed bit", master, p, changed, api.ErrForged)
		}
		mustRefuse(t, "a byte ahead", master, p, slices.Concat([]byte{0}, sealed), api.ErrForged)
		mustRefuse(t, "a byte behind", master, p, slices.Concat(sealed, []byte{0}), api.ErrForged)
		mustRefuse(t, "twice", master, p, slices.Concat(sealed, sealed), api.ErrForged)
	}
}

// P12.2: what is sealed at one place opens at no other one, and by no other master key.
func TestOpenElsewhere(t *testing.T) {
	master, p := masters()[1], spot{1, 2, 3}
	sealed := seal(t, master, p, []byte("text"))
	for bit := range 40 {
		mustRefuse(t, "another term", master, spot{p.domain, p.term ^ 1<<bit, p.index}, sealed, api.ErrForged)
		mustRefuse(t, "another index", master, spot{p.domain, p.term, p.index ^ 1<<bit}, sealed, api.ErrForged)
	}
	for bit := range 8 {
		mustRefuse(t, "another domain", master, spot{p.domain ^ 1<<bit, p.term, p.index}, sealed, api.ErrForged)
	}
	for _, x := range []spot{{1, 3, 2}, {2, 1, 3}, {3, 2, 1}, {2, 3, 1}, {3, 1, 2}, {0, 0, 0}} {
		mustRefuse(t, "the numbers in another order", master, x, sealed, api.ErrForged)
	}
	for at := range master {
		other := master
		other[at] ^= 0x80
		mustRefuse(t, "another master key", other, p, sealed, api.ErrForged)
	}
}

// P12.2: the nonce stands beside the text: what the library sealed with it opens, with anything else beside it does not.
func TestTheNonceIsBesideTheText(t *testing.T) {
	s := source(126)
	for range 20 {
		master, p, text := api.Key(s.bytes(32)), s.spot(), s.bytes(20)
		n := nonceByWording(p)
		if got := open(t, master, p, sealByWording(t, master, p, n[:], text)); !bytes.Equal(got, text) {
			t.Fatalf("Open at %v = %x, want %x", p, got, text)
		}
		for _, beside := range [][]byte{nil, n[:11], n[1:], make([]byte, 12), slices.Concat(n[:], []byte{0})} {
			mustRefuse(t, "other bytes beside", master, p, sealByWording(t, master, p, beside, text), api.ErrForged)
		}
	}
}

// P12.2: the key is the domain's, not the master key itself.
func TestTheMasterKeySealsNothing(t *testing.T) {
	master, p := masters()[3], spot{1, 2, 3}
	n := nonceByWording(p)
	text := []byte("text")
	if bytes.Equal(seal(t, master, p, text), gcm.Seal(master, n, n[:], text)) {
		t.Error("sealed by the master key")
	}
	mustRefuse(t, "sealed by the master key", master, p, gcm.Seal(master, n, n[:], text), api.ErrForged)
}

// P12.3: whatever was passed to Seal comes back, empty texts, zero bytes and sealed ones too.
func TestOpenReturnsTheText(t *testing.T) {
	s := source(127)
	inner := seal(t, masters()[1], spot{1, 2, 3}, []byte("text"))
	texts := [][]byte{nil, {}, {0}, {0, 0, 0}, make([]byte, 16), bytes.Repeat([]byte{0xff}, 33), []byte("text"), inner, s.bytes(64)}
	for i, text := range texts {
		for _, p := range []spot{{0, 0, 0}, {1, 2, 3}, {255, 1<<40 - 1, 1<<40 - 1}, s.spot()} {
			master := masters()[i%4]
			sealed := seal(t, master, p, text)
			if len(sealed) != len(text)+16 {
				t.Errorf("%d bytes are sealed to %d", len(text), len(sealed))
			}
			if got := open(t, master, p, sealed); !bytes.Equal(got, text) {
				t.Errorf("%x sealed at %v is opened as %x", text, p, got)
			}
		}
	}
}

// spotOf reads a nonce back, without the byte that no index reaches.
func spotOf(n api.Nonce) spot {
	number := func(b []byte) int {
		return int(new(big.Int).SetBytes(b).Int64())
	}
	return spot{number(n[:1]), number(n[1:6]), number(n[6:])}
}

// P12.3: a nonce tells the place it is of, so that no two places share one.
func TestNoncesTellTheirSpots(t *testing.T) {
	s := source(128)
	l := spotsAbout()
	for range 5000 {
		l = append(l, s.spot())
	}
	seen := map[api.Nonce]spot{}
	for _, p := range l {
		n, _ := nonceAt(p)
		if spotOf(n) != p {
			t.Fatalf("Nonce at %v is one of %v", p, spotOf(n))
		}
		if other, taken := seen[n]; taken && other != p {
			t.Fatalf("%v and %v have one nonce", other, p)
		}
		seen[n] = p
	}
}

// P12.3: all small places, and all neighbours of the last one, have nonces of their own.
func TestNoncesOfNeighboursDiffer(t *testing.T) {
	seen := map[api.Nonce]spot{}
	look := func(p spot) {
		n, e := nonceAt(p)
		if other, taken := seen[n]; taken || e != api.OK {
			t.Fatalf("%v has the nonce of %v, error %d", p, other, e)
		}
		seen[n] = p
	}
	last := 1<<40 - 1
	for domain := range 8 {
		for term := range 12 {
			for index := range 260 {
				look(spot{domain, term, index})
				look(spot{255 - domain, last - term, last - index})
			}
		}
	}
}

// P12.1, P12.2: a call answers the same, whatever was called before it (rule R6).
func TestCallsDoNotHearOneAnother(t *testing.T) {
	s := source(129)
	master, p, text := api.Key(s.bytes(32)), spot{3, 4, 5}, s.bytes(20)
	key, _ := Key(master, 3)
	nonce, _ := nonceAt(p)
	sealed := seal(t, master, p, text)
	for range 5 {
		other, q := api.Key(s.bytes(32)), s.spot()
		Key(other, q.domain)
		Key(other, -1)
		nonceAt(q)
		nonceAt(spot{-1, 0, 0})
		open(t, other, q, seal(t, other, q, s.bytes(30)))
		openAt(other, p, sealed)
		againKey, _ := Key(master, 3)
		againNonce, _ := nonceAt(p)
		if againKey != key || againNonce != nonce || !bytes.Equal(seal(t, master, p, text), sealed) || !bytes.Equal(open(t, master, p, sealed), text) {
			t.Fatal("a later call with the same arguments answers something else")
		}
	}
}

// roomy is b with spare capacity behind it, and that memory as a whole.
func roomy(s *source, b []byte) (front, whole []byte) {
	whole = append(slices.Clone(b), s.bytes(100)...)
	return whole[:len(b)], whole
}

// P12.2: neither what is given nor the spare capacity behind it is changed, and the spare bytes don't count (rule R7).
func TestArgumentsAreLeftAlone(t *testing.T) {
	s := source(130)
	for _, length := range []int{0, 1, 15, 16, 17, 40} {
		master, p, plain := api.Key(s.bytes(32)), s.spot(), s.bytes(length)
		n := nonceByWording(p)
		want := sealByWording(t, master, p, n[:], plain)
		text, textWhole := roomy(&s, plain)
		sealed, sealedWhole := roomy(&s, want)
		forged, forgedWhole := roomy(&s, append(slices.Clone(want), 1))
		before := slices.Concat(textWhole, sealedWhole, forgedWhole)
		if got := seal(t, master, p, text); !bytes.Equal(got, want) {
			t.Errorf("%d bytes: sealed to %x, want %x", length, got, want)
		}
		if got := open(t, master, p, sealed); !bytes.Equal(got, plain) {
			t.Errorf("%d bytes: opened as %x, want %x", length, got, plain)
		}
		mustRefuse(t, "a byte behind", master, p, forged, api.ErrForged)
		if !bytes.Equal(slices.Concat(textWhole, sealedWhole, forgedWhole), before) {
			t.Errorf("%d bytes: what was given is changed", length)
		}
	}
}

func spoil(b []byte) {
	whole := b[:cap(b)]
	for i := range whole {
		whole[i] ^= 0xff
	}
}

// P12.2: results are new memory; what the caller does with them, to their whole capacity, shows nowhere else (rule R7).
func TestResultsAreTheCallers(t *testing.T) {
	s := source(131)
	for _, length := range []int{0, 1, 16, 40} {
		master, p, text := api.Key(s.bytes(32)), s.spot(), s.bytes(length)
		n := nonceByWording(p)
		want := sealByWording(t, master, p, n[:], text)
		given, kept := slices.Clone(want), slices.Concat(want, text)
		for range 2 {
			sealed, opened := seal(t, master, p, text), open(t, master, p, given)
			if !bytes.Equal(sealed, want) || !bytes.Equal(opened, text) {
				t.Fatalf("%d bytes: %x and %x, want %x and %x", length, sealed, opened, want, text)
			}
			spoil(sealed)
			spoil(opened)
		}
		if !bytes.Equal(slices.Concat(given, text), kept) {
			t.Errorf("%d bytes: a result shares memory with an argument", length)
		}
	}
}

// P12.2: what was given out stays as it is, whatever is asked later, and whatever becomes of the arguments.
func TestResultsStay(t *testing.T) {
	s := source(132)
	master, p, text := api.Key(s.bytes(32)), s.spot(), s.bytes(40)
	sealed := seal(t, master, p, text)
	given := slices.Clone(sealed)
	opened := open(t, master, p, given)
	want := slices.Concat(sealed, opened)
	spoil(text)
	spoil(given)
	for range 3 {
		q := s.spot()
		open(t, master, q, seal(t, master, q, s.bytes(40)))
	}
	if !bytes.Equal(slices.Concat(sealed, opened), want) {
		t.Error("a later call changes what was given out")
	}
}
