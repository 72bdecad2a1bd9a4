package gcm

import (
	"bytes"
	standard "crypto/aes"
	"crypto/cipher"
	"encoding/binary"
	"encoding/hex"
	"slices"
	"testing"

	"strongroom/aes"
	"strongroom/api"
	"strongroom/block"
)

func bytesOf(t *testing.T, digits string) []byte {
	t.Helper()
	b, err := hex.DecodeString(digits)
	if err != nil {
		t.Fatalf("%q is not in hexadecimal", digits)
	}
	return b
}

// source gives bytes without a pattern, the same ones in each run.
type source uint32

func (s *source) next() byte {
	*s = *s*1664525 + 1013904223
	return byte(*s >> 24)
}

func (s *source) bytes(length int) []byte {
	b := make([]byte, length)
	for i := range b {
		b[i] = s.next()
	}
	return b
}

func (s *source) key() api.Key     { return api.Key(s.bytes(32)) }
func (s *source) nonce() api.Nonce { return api.Nonce(s.bytes(12)) }

func libraryCipher(t *testing.T, k api.Key) cipher.Block {
	t.Helper()
	c, err := standard.NewCipher(k[:])
	if err != nil {
		t.Fatal(err)
	}
	return c
}

func libraryGCM(t *testing.T, k api.Key) cipher.AEAD {
	t.Helper()
	g, err := cipher.NewGCM(libraryCipher(t, k))
	if err != nil {
		t.Fatal(err)
	}
	return g
}

// vector is a text and what becomes of it.
type vector struct{ key, nonce, beside, text, sealed, tag string }

// vectors holds the test cases 13 to 16 of the GCM specification: the first two are the chapter's examples, the last two end within a block.
func vectors() []vector {
	zeros := "0000000000000000000000000000000000000000000000000000000000000000"
	key := "feffe9928665731c6d6a8f9467308308feffe9928665731c6d6a8f9467308308"
	text := "d9313225f88406e5a55909c5aff5269a86a7a9531534f7da2e4c303d8a318a72" +
		"1c3c0c95956809532fcf0e2449a6b525b16aedf5aa0de657ba637b39"
	sealed := "522dc1f099567d07f47f37a32a84427d643a8cdcbfe5c0c97598a2bd2555d1aa" +
		"8cb08e48590dbb3da7b08b1056828838c5f61e6393ba7a0abcc9f662"
	return []vector{
		{zeros, zeros[:24], "", "", "", "530f8afbc74536b9a963b4f1c4cb738b"},
		{zeros, zeros[:24], "", zeros[:32], "cea7403d4d606b6e074ec5d3baf39d18", "d0d1c8a799996bf0265b98b5d48ab919"},
		{key, "cafebabefacedbaddecaf888", "", text + "1aafd255", sealed + "898015ad", "b094dac5d93471bdec1a502270e3cc6c"},
		{key, "cafebabefacedbaddecaf888", "feedfacedeadbeeffeedfacedeadbeefabaddad2", text, sealed, "76fc6ece0f4e1768cddf8853bb2d551b"},
	}
}

// streamByWording makes the whole key stream with the library's AES first, and combines afterwards.
func streamByWording(t *testing.T, k api.Key, n api.Nonce, from uint32, b []byte) []byte {
	t.Helper()
	c := libraryCipher(t, k)
	var stream []byte
	for number := from; len(stream) < len(b); number++ {
		group := binary.BigEndian.AppendUint32(slices.Clone(n[:]), number)
		c.Encrypt(group, group)
		stream = append(stream, group...)
	}
	combined := make([]byte, len(b))
	for i := range b {
		combined[i] = b[i] ^ stream[i]
	}
	return combined
}

// P4.1: the texts of the specification, with the counter that Seal begins with.
func TestXorOfTheSpecificationsTexts(t *testing.T) {
	for _, v := range vectors() {
		k, n := api.Key(bytesOf(t, v.key)), api.Nonce(bytesOf(t, v.nonce))
		text, sealed := bytesOf(t, v.text), bytesOf(t, v.sealed)
		if got := Xor(k, n, 2, text); !bytes.Equal(got, sealed) {
			t.Errorf("Xor(%x) = %x, want %x", text, got, sealed)
		}
		if got := Xor(k, n, 2, sealed); !bytes.Equal(got, text) {
			t.Errorf("Xor(%x) = %x, want %x", sealed, got, text)
		}
	}
}

// P4.1: zero bytes show the key stream itself: the counter block of from, and block.Next of the one before.
func TestXorOfZeroBytesIsTheKeyStream(t *testing.T) {
	s := source(41)
	k, n := s.key(), s.nonce()
	counter := api.Block(append(slices.Clone(n[:]), 0x12, 0x34, 0x56, 0xff))
	got := Xor(k, n, 0x123456ff, make([]byte, 16*4))
	for i := range 4 {
		if want := aes.Encrypt(k, counter); api.Block(got[16*i:]) != want {
			t.Errorf("group %d is %x, want %x", i, got[16*i:16*i+16], want)
		}
		counter = block.Next(counter)
	}
}

// P4.1: every length up to three groups, from counters at both edges, with a carry over each byte and past the last.
func TestXorOfEachLengthAndCounter(t *testing.T) {
	s := source(42)
	counters := []uint32{0, 1, 2, 0xfe, 0xff, 0xffff, 0xffffff, 0x01020304, 0x7fffffff, 0xfffffffe, 0xffffffff}
	for length := range 50 {
		k, n, from, b := s.key(), s.nonce(), counters[length%len(counters)], s.bytes(length)
		if got, want := Xor(k, n, from, b), streamByWording(t, k, n, from, b); !bytes.Equal(got, want) {
			t.Errorf("%d bytes from %#x: %x, want %x", length, from, got, want)
		}
	}
	for _, from := range counters {
		k, n, b := s.key(), s.nonce(), s.bytes(40)
		if got, want := Xor(k, n, from, b), streamByWording(t, k, n, from, b); !bytes.Equal(got, want) {
			t.Errorf("40 bytes from %#x: %x, want %x", from, got, want)
		}
	}
}

// P4.1: the counter goes round, and the nonce ahead of it stays.
func TestXorCountsRound(t *testing.T) {
	s := source(43)
	k, n, b := s.key(), s.nonce(), s.bytes(100)
	if whole, rest := Xor(k, n, 0xffffffff, b), Xor(k, n, 0, b[16:]); !bytes.Equal(whole[16:], rest) {
		t.Errorf("after the last counter %x, from 0 on %x", whole[16:], rest)
	}
}

// P4.1: more groups than a byte can count.
func TestXorOfManyGroups(t *testing.T) {
	s := source(44)
	k, n, b := s.key(), s.nonce(), s.bytes(16*258+5)
	if got, want := Xor(k, n, 2, b), streamByWording(t, k, n, 2, b); !bytes.Equal(got, want) {
		t.Error("another key stream than the library's AES makes")
	}
}

// P4.1: no bytes, nil or not, give none.
func TestXorOfNothing(t *testing.T) {
	for _, b := range [][]byte{nil, {}} {
		if got := Xor(api.Key{1}, api.Nonce{2}, 3, b); len(got) != 0 {
			t.Errorf("Xor of nothing is %x", got)
		}
	}
}

// P4.2: the tags of the specification, of what is sealed.
func TestTagOfTheSpecificationsTexts(t *testing.T) {
	for _, v := range vectors() {
		k, n := api.Key(bytesOf(t, v.key)), api.Nonce(bytesOf(t, v.nonce))
		got := Tag(k, n, bytesOf(t, v.beside), bytesOf(t, v.sealed))
		if got != api.Block(bytesOf(t, v.tag)) {
			t.Errorf("Tag(%s, %s) = %x, want %s", v.beside, v.sealed, got, v.tag)
		}
	}
}

// libraryTag lets the library seal the text that the wanted sealed bytes belong to, so that its tag is theirs.
func libraryTag(t *testing.T, k api.Key, n api.Nonce, beside, sealed []byte) api.Block {
	t.Helper()
	text := streamByWording(t, k, n, 2, sealed)
	both := libraryGCM(t, k).Seal(nil, n[:], text, beside)
	if !bytes.Equal(both[:len(sealed)], sealed) {
		t.Fatal("the library seals to other bytes")
	}
	return api.Block(both[len(sealed):])
}

// P4.2: every pair of lengths about none, one and two whole blocks.
func TestTagOfEachLength(t *testing.T) {
	s := source(45)
	lengths := []int{0, 1, 7, 8, 15, 16, 17, 31, 32, 33}
	for _, i := range lengths {
		for _, j := range lengths {
			k, n, beside, sealed := s.key(), s.nonce(), s.bytes(i), s.bytes(j)
			if got, want := Tag(k, n, beside, sealed), libraryTag(t, k, n, beside, sealed); got != want {
				t.Errorf("%d bytes beside %d: %x, want %x", i, j, got, want)
			}
		}
	}
}

// P4.2: lengths in bits that take two and three bytes.
func TestTagOfGreatLengths(t *testing.T) {
	s := source(46)
	for _, c := range []struct{ beside, sealed int }{{32, 31}, {5, 8191}, {8192, 5}, {8193, 8192}, {1<<21 + 1, 3}, {3, 1<<21 + 1}} {
		k, n, beside, sealed := s.key(), s.nonce(), s.bytes(c.beside), s.bytes(c.sealed)
		if got, want := Tag(k, n, beside, sealed), libraryTag(t, k, n, beside, sealed); got != want {
			t.Errorf("%d bytes beside %d: %x, want %x", c.beside, c.sealed, got, want)
		}
	}
}

// P4.2: eight bytes each; the greatest ones here are more than 32 bits can tell, and a hash of so many bytes would take minutes.
func TestLengthsAreInBits(t *testing.T) {
	great := make([]byte, 1<<29+0x123)
	cases := []struct {
		beside, sealed []byte
		want           api.Block
	}{
		{nil, nil, api.Block{}},
		{great[:1], great[:2], api.Block{7: 8, 15: 16}},
		{great[:31], great[:32], api.Block{7: 248, 14: 1}},
		{great, great[:1], api.Block{3: 1, 6: 9, 7: 0x18, 15: 8}},
		{great[:1], great, api.Block{7: 8, 11: 1, 14: 9, 15: 0x18}},
	}
	for _, c := range cases {
		if got := lengths(c.beside, c.sealed); got != c.want {
			t.Errorf("of %d and %d bytes: %x, want %x", len(c.beside), len(c.sealed), got, c.want)
		}
	}
}

// P4.2: what is padding and what is not, and what stands on which side, makes a difference.
func TestTagTellsItsPartsApart(t *testing.T) {
	k, n := api.Key{1}, api.Nonce{2}
	cases := []struct{ beside, sealed []byte }{
		{nil, nil},
		{make([]byte, 1), nil},
		{nil, make([]byte, 1)},
		{make([]byte, 16), nil},
		{nil, make([]byte, 16)},
		{make([]byte, 1), make([]byte, 1)},
		{[]byte("a"), nil},
		{nil, []byte("a")},
		{[]byte("a"), []byte("b")},
		{[]byte("b"), []byte("a")},
		{[]byte("ab"), nil},
		{nil, []byte("ab")},
	}
	seen := map[api.Block]int{}
	for i, c := range cases {
		tag := Tag(k, n, c.beside, c.sealed)
		if other, taken := seen[tag]; taken {
			t.Errorf("cases %d and %d have the same tag", other, i)
		}
		seen[tag] = i
	}
}

// P4.3: the chapter's examples and the specification's other texts.
func TestSealAndOpenOfTheSpecificationsTexts(t *testing.T) {
	for _, v := range vectors() {
		k, n := api.Key(bytesOf(t, v.key)), api.Nonce(bytesOf(t, v.nonce))
		beside, text, want := bytesOf(t, v.beside), bytesOf(t, v.text), bytesOf(t, v.sealed+v.tag)
		if got := Seal(k, n, beside, text); !bytes.Equal(got, want) {
			t.Errorf("Seal(%s, %s) = %x, want %x", v.beside, v.text, got, want)
		}
		if got, code := Open(k, n, beside, want); code != api.OK || !bytes.Equal(got, text) {
			t.Errorf("Open(%s, %x) = %x, %d, want %s", v.beside, want, got, code, v.text)
		}
	}
}

// P4.3, P4.4: against the library's own GCM, and back.
func TestSealAndOpenOfEachLength(t *testing.T) {
	s := source(47)
	for length := range 70 {
		k, n, beside, text := s.key(), s.nonce(), s.bytes((length*7)%40), s.bytes(length)
		want := libraryGCM(t, k).Seal(nil, n[:], text, beside)
		if got := Seal(k, n, beside, text); !bytes.Equal(got, want) {
			t.Errorf("%d bytes: Seal gives %x, want %x", length, got, want)
		}
		if got, code := Open(k, n, beside, want); code != api.OK || !bytes.Equal(got, text) {
			t.Errorf("%d bytes: Open gives %x, %d, want %x", length, got, code, text)
		}
	}
}

// P4.3, P4.4: a text of some kilobytes.
func TestSealAndOpenOfALongText(t *testing.T) {
	s := source(48)
	k, n, beside, text := s.key(), s.nonce(), s.bytes(300), s.bytes(api.MaxText+9)
	want := libraryGCM(t, k).Seal(nil, n[:], text, beside)
	if !bytes.Equal(Seal(k, n, beside, text), want) {
		t.Error("Seal gives other bytes than the library")
	}
	if got, code := Open(k, n, beside, want); code != api.OK || !bytes.Equal(got, text) {
		t.Errorf("Open gives another text, %d", code)
	}
}

// P4.3: with fewer bytes than a tag nothing else is asked; with as many, the text may be empty.
func TestOpenOfTooFewBytes(t *testing.T) {
	k, n := api.Key{3}, api.Nonce{4}
	tag := Tag(k, n, nil, nil)
	for length := range 16 {
		for _, short := range [][]byte{tag[:length], tag[16-length:], make([]byte, length), make([]byte, length, 64)} {
			if got, code := Open(k, n, nil, short); code != api.ErrShort || got != nil {
				t.Errorf("%d bytes: %x, %d, want ErrShort", length, got, code)
			}
		}
	}
	if got, code := Open(k, n, nil, nil); code != api.ErrShort || got != nil {
		t.Errorf("nil: %x, %d, want ErrShort", got, code)
	}
	if got, code := Open(k, n, nil, tag[:]); code != api.OK || len(got) != 0 {
		t.Errorf("a tag alone: %x, %d, want OK", got, code)
	}
	if got, code := Open(k, n, nil, make([]byte, 16)); code != api.ErrForged || got != nil {
		t.Errorf("16 zero bytes: %x, %d, want ErrForged", got, code)
	}
}

func expectForged(t *testing.T, what string, k api.Key, n api.Nonce, beside, sealed []byte) {
	t.Helper()
	if got, code := Open(k, n, beside, sealed); code != api.ErrForged || got != nil {
		t.Errorf("%s: %x, %d, want ErrForged", what, got, code)
	}
}

// P4.3: another key, nonce or beside, and bytes that are missing, too many, or in another order.
func TestOpenOfWhatWasNotSealed(t *testing.T) {
	s := source(49)
	k, n, beside, text := s.key(), s.nonce(), s.bytes(20), s.bytes(40)
	sealed := Seal(k, n, beside, text)
	otherKey, otherNonce := k, n
	otherKey[31] ^= 1
	otherNonce[11] ^= 1
	expectForged(t, "another key", otherKey, n, beside, sealed)
	expectForged(t, "another nonce", k, otherNonce, beside, sealed)
	expectForged(t, "nothing beside", k, n, nil, sealed)
	expectForged(t, "a shorter beside", k, n, beside[:19], sealed)
	expectForged(t, "a longer beside", k, n, append(slices.Clone(beside), 0), sealed)
	expectForged(t, "the last byte missing", k, n, beside, sealed[:len(sealed)-1])
	expectForged(t, "the first byte missing", k, n, beside, sealed[1:])
	expectForged(t, "a byte behind it", k, n, beside, append(slices.Clone(sealed), 0))
	expectForged(t, "a byte between text and tag", k, n, beside, slices.Insert(slices.Clone(sealed), 40, 0))
	expectForged(t, "the tag ahead", k, n, beside, slices.Concat(sealed[40:], sealed[:40]))
	expectForged(t, "the text itself", k, n, beside, slices.Concat(text, sealed[40:]))
	if got, code := Open(k, n, beside, sealed); code != api.OK || !bytes.Equal(got, text) {
		t.Errorf("as it was sealed: %x, %d, want %x", got, code, text)
	}
}

// P4.4: every bit of the tag, and of what was encrypted and of what stands beside it.
func TestOpenOfChangedBits(t *testing.T) {
	s := source(50)
	for _, length := range []int{0, 1, 16, 21} {
		k, n, beside, text := s.key(), s.nonce(), s.bytes(length), s.bytes(length)
		sealed := Seal(k, n, beside, text)
		for _, part := range [][]byte{sealed, beside} {
			for i := range 8 * len(part) {
				part[i/8] ^= 1 << (i % 8)
				expectForged(t, "a changed bit", k, n, beside, sealed)
				part[i/8] ^= 1 << (i % 8)
			}
		}
		if got, code := Open(k, n, beside, sealed); code != api.OK || !bytes.Equal(got, text) {
			t.Errorf("changed back: %x, %d, want %x", got, code, text)
		}
	}
}

// roomy is b with spare capacity behind it, and that memory as a whole.
func roomy(s *source, b []byte) (front, whole []byte) {
	whole = append(slices.Clone(b), s.bytes(48)...)
	return whole[:len(b)], whole
}

// P4.1 to P4.3: neither the arguments nor the spare capacity behind them are changed, and the spare bytes don't count.
func TestArgumentsAreLeftAlone(t *testing.T) {
	s := source(51)
	for length := range 34 {
		k, n := s.key(), s.nonce()
		plainBeside, plainText := s.bytes(33-length), s.bytes(length)
		plainSealed := Seal(k, n, plainBeside, plainText)
		beside, besideWhole := roomy(&s, plainBeside)
		text, textWhole := roomy(&s, plainText)
		sealed, sealedWhole := roomy(&s, plainSealed)
		before := slices.Concat(besideWhole, textWhole, sealedWhole)

		streamed, tag, again := Xor(k, n, 2, text), Tag(k, n, beside, text), Seal(k, n, beside, text)
		opened, code := Open(k, n, beside, sealed)
		if !bytes.Equal(slices.Concat(besideWhole, textWhole, sealedWhole), before) {
			t.Fatalf("%d bytes: what was given is changed", length)
		}
		if !bytes.Equal(streamed, plainSealed[:length]) || tag != Tag(k, n, plainBeside, plainText) || !bytes.Equal(again, plainSealed) {
			t.Fatalf("%d bytes: the spare ones count", length)
		}
		if code != api.OK || !bytes.Equal(opened, plainText) {
			t.Fatalf("%d bytes: opened with spare ones %x, %d", length, opened, code)
		}
	}
}

// P4.1 to P4.3: a result is new memory; what the caller does with it, to its whole capacity, is not seen in the arguments.
func TestResultsAreTheCallers(t *testing.T) {
	s := source(52)
	for _, length := range []int{0, 1, 16, 40} {
		k, n, beside, text := s.key(), s.nonce(), s.bytes(length), s.bytes(length)
		sealed := Seal(k, n, beside, text)
		before := slices.Concat(beside, text, sealed)
		opened, _ := Open(k, n, beside, sealed)
		for _, result := range [][]byte{Xor(k, n, 2, text), Seal(k, n, beside, text), opened} {
			whole := result[:cap(result)]
			for i := range whole {
				whole[i] ^= 0xff
			}
		}
		if !bytes.Equal(slices.Concat(beside, text, sealed), before) {
			t.Errorf("%d bytes: a result shares memory with an argument", length)
		}
	}
}
