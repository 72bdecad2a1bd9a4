package sha

import (
	"bytes"
	"crypto/sha256"
	"encoding"
	"encoding/binary"
	"encoding/hex"
	"math/big"
	"slices"
	"strings"
	"testing"

	"strongroom/api"
)

// source gives bytes without a pattern, the same ones in each run.
type source uint32

func (s *source) next() byte {
	*s = *s*1664525 + 1013904223
	return byte(*s >> 24)
}

func (s *source) bytes(length int) []byte {
	b := make([]byte, length)
	for i := range b {
		b[i] = s.next()
	}
	return b
}

func (s *source) block() [64]byte {
	return [64]byte(s.bytes(64))
}

func (s *source) state() [8]uint32 {
	return stateOf(s.bytes(32))
}

func stateOf(b []byte) [8]uint32 {
	var state [8]uint32
	for i := range state {
		state[i] = binary.BigEndian.Uint32(b[4*i:])
	}
	return state
}

func bytesOfState(state [8]uint32) []byte {
	var b []byte
	for _, number := range state {
		b = binary.BigEndian.AppendUint32(b, number)
	}
	return b
}

func sumOfDigits(t *testing.T, digits string) api.Sum {
	t.Helper()
	b, err := hex.DecodeString(digits)
	if err != nil || len(b) != 32 {
		t.Fatalf("%q is not 32 bytes in hexadecimal", digits)
	}
	return api.Sum(b)
}

// primes holds the first ones, up to that many.
func primes(count int) []int64 {
	var found []int64
	for n := int64(2); len(found) < count; n++ {
		if !slices.ContainsFunc(found, func(p int64) bool { return n%p == 0 }) {
			found = append(found, n)
		}
	}
	return found
}

// rootBits is the first 32 bits of the fractional part of the root of n of that degree: the greatest r with r^degree not above n * 2^(32*degree), modulo 2^32.
func rootBits(n int64, degree int64) uint32 {
	bound := new(big.Int).Lsh(big.NewInt(n), uint(32*degree))
	root := new(big.Int)
	for bit := 40; bit >= 0; bit-- {
		root.SetBit(root, bit, 1)
		if new(big.Int).Exp(root, big.NewInt(degree), nil).Cmp(bound) > 0 {
			root.SetBit(root, bit, 0)
		}
	}
	return uint32(root.Uint64())
}

// cubeRoots are the constants of the compression, worked out from the primes.
func cubeRoots() [64]uint32 {
	var roots [64]uint32
	for i, p := range primes(64) {
		roots[i] = rootBits(p, 3)
	}
	return roots
}

// squareRoots are the numbers of the initial state, worked out from the primes.
func squareRoots() [8]uint32 {
	var roots [8]uint32
	for i, p := range primes(8) {
		roots[i] = rootBits(p, 2)
	}
	return roots
}

// pressByWording does what the chapter says of Press, number by number, with sums and rotations of its own.
func pressByWording(k [64]uint32, state [8]uint32, m [64]byte) [8]uint32 {
	const modulus = 1 << 32
	right := func(x uint64, n int) uint64 { return (x>>n | x<<(32-n)) % modulus }
	var w [64]uint64
	for t := range 16 {
		w[t] = uint64(m[4*t])<<24 + uint64(m[4*t+1])<<16 + uint64(m[4*t+2])<<8 + uint64(m[4*t+3])
	}
	for t := 16; t < 64; t++ {
		s0 := right(w[t-15], 7) ^ right(w[t-15], 18) ^ (w[t-15] >> 3)
		s1 := right(w[t-2], 17) ^ right(w[t-2], 19) ^ (w[t-2] >> 10)
		w[t] = (s1 + w[t-7] + s0 + w[t-16]) % modulus
	}
	var v [8]uint64
	for i := range v {
		v[i] = uint64(state[i])
	}
	for t := range 64 {
		a, b, c, d, e, f, g, h := v[0], v[1], v[2], v[3], v[4], v[5], v[6], v[7]
		notE := modulus - 1 - e
		t1 := h + (right(e, 6) ^ right(e, 11) ^ right(e, 25)) + ((e & f) ^ (notE & g)) + uint64(k[t]) + w[t]
		t2 := (right(a, 2) ^ right(a, 13) ^ right(a, 22)) + ((a & b) ^ (a & c) ^ (b & c))
		v = [8]uint64{(t1 + t2) % modulus, a, b, c, (d + t1) % modulus, e, f, g}
	}
	var result [8]uint32
	for i := range result {
		result[i] = uint32((uint64(state[i]) + v[i]) % modulus)
	}
	return result
}

// hashByWording makes the whole message and presses it block by block.
func hashByWording(k [64]uint32, b []byte) api.Sum {
	message := append(slices.Clone(b), 0x80)
	for len(message)%64 != 56 {
		message = append(message, 0)
	}
	message = binary.BigEndian.AppendUint64(message, uint64(len(b))*8)
	state := squareRoots()
	for block := range slices.Chunk(message, 64) {
		state = pressByWording(k, state, [64]byte(block))
	}
	return api.Sum(bytesOfState(state))
}

// libraryAt is the library's hash, set to that state after some whole blocks.
//
// Its saved form is a name of four bytes, the state, the block that is being filled, and the number of bytes till then.
func libraryAt(t *testing.T, state [8]uint32, blocks int) interface {
	encoding.BinaryAppender
	Write([]byte) (int, error)
	Sum([]byte) []byte
} {
	t.Helper()
	saved := slices.Concat([]byte("sha\x03"), bytesOfState(state), make([]byte, 64))
	saved = binary.BigEndian.AppendUint64(saved, uint64(blocks)*64)
	h := sha256.New()
	if err := h.(encoding.BinaryUnmarshaler).UnmarshalBinary(saved); err != nil {
		t.Fatal(err)
	}
	return h.(interface {
		encoding.BinaryAppender
		Write([]byte) (int, error)
		Sum([]byte) []byte
	})
}

// libraryPress is the state that the library comes to by the block m.
func libraryPress(t *testing.T, state [8]uint32, m [64]byte) [8]uint32 {
	t.Helper()
	h := libraryAt(t, state, 0)
	h.Write(m[:])
	saved, err := h.AppendBinary(nil)
	if err != nil {
		t.Fatal(err)
	}
	return stateOf(saved[4:])
}

func filledState(number uint32) [8]uint32 {
	var state [8]uint32
	for i := range state {
		state[i] = number
	}
	return state
}

func filledBlock(b byte) [64]byte {
	return [64]byte(bytes.Repeat([]byte{b}, 64))
}

// edgeStates are all bits 0, all bits 1, the highest bits alone, the lowest alone, and the initial state.
func edgeStates() [][8]uint32 {
	return [][8]uint32{{}, filledState(0xffffffff), filledState(0x80000000), filledState(1), squareRoots()}
}

func edgeBlocks() [][64]byte {
	return [][64]byte{{}, filledBlock(0xff), filledBlock(0x80), filledBlock(0x01), {0: 0x80}, {63: 1}}
}

// chosenLengths are the lengths around the ends of the blocks and of the room for the length.
func chosenLengths() []int {
	return []int{0, 1, 3, 31, 32, 54, 55, 56, 57, 62, 63, 64, 65, 118, 119, 120, 121, 127, 128, 129, 183, 184, 191, 192, 193, 1000}
}

// P5.1: the blocks of the standard's examples: `abc`, and both blocks of the message of 448 bits.
func TestPressOfTheStandardsBlocks(t *testing.T) {
	start := [8]uint32{0x6a09e667, 0xbb67ae85, 0x3c6ef372, 0xa54ff53a, 0x510e527f, 0x9b05688c, 0x1f83d9ab, 0x5be0cd19}
	short := [64]byte{0: 'a', 1: 'b', 2: 'c', 3: 0x80, 63: 24}
	first := [64]byte{56: 0x80}
	copy(first[:], "abcdbcdecdefdefgefghfghighijhijkijkljklmklmnlmnomnopnopq")
	between := [8]uint32{0x85e655d6, 0x417a1795, 0x3363376a, 0x624cde5c, 0x76e09589, 0xcac5f811, 0xcc4b32c1, 0xf20e533a}
	cases := []struct {
		state [8]uint32
		block [64]byte
		want  [8]uint32
	}{
		{start, short, [8]uint32{0xba7816bf, 0x8f01cfea, 0x414140de, 0x5dae2223, 0xb00361a3, 0x96177a9c, 0xb410ff61, 0xf20015ad}},
		{start, first, between},
		{between, [64]byte{62: 0x01, 63: 0xc0}, [8]uint32{0x248d6a61, 0xd20638b8, 0xe5c02693, 0x0c3e6039, 0xa33ce459, 0x64ff2167, 0xf6ecedd4, 0x19db06c1}},
		{start, [64]byte{0: 0x80}, [8]uint32{0xe3b0c442, 0x98fc1c14, 0x9afbf4c8, 0x996fb924, 0x27ae41e4, 0x649b934c, 0xa495991b, 0x7852b855}},
	}
	for _, c := range cases {
		if got := Press(c.state, c.block); got != c.want {
			t.Errorf("Press(%08x, %x) = %08x, want %08x", c.state, c.block, got, c.want)
		}
	}
}

// P5.1: against the library, from states and by blocks of all kinds.
func TestPressIsTheLibrarys(t *testing.T) {
	s := source(51)
	states, blocks := edgeStates(), edgeBlocks()
	for range 20 {
		states, blocks = append(states, s.state()), append(blocks, s.block())
	}
	for _, state := range states {
		for _, block := range blocks {
			if got, want := Press(state, block), libraryPress(t, state, block); got != want {
				t.Fatalf("Press(%08x, %x) = %08x, want %08x", state, block, got, want)
			}
		}
	}
}

// P5.1: as the chapter words it, with constants from the primes' roots; each bit of the state and of the block alone, so that the way of every place is seen.
func TestPressFollowsItsWording(t *testing.T) {
	k := cubeRoots()
	check := func(state [8]uint32, block [64]byte) {
		t.Helper()
		if got, want := Press(state, block), pressByWording(k, state, block); got != want {
			t.Fatalf("Press(%08x, %x) = %08x, want %08x", state, block, got, want)
		}
	}
	for i := range 256 {
		var state [8]uint32
		state[i/32] = 1 << (i % 32)
		check(state, [64]byte{})
	}
	for i := range 512 {
		var block [64]byte
		block[i/8] = 1 << (i % 8)
		check([8]uint32{}, block)
	}
	for _, state := range edgeStates() {
		for _, block := range edgeBlocks() {
			check(state, block)
		}
	}
	s := source(52)
	for range 500 {
		check(s.state(), s.block())
	}
}

// P5.1: no bit of the state, nor of the block, goes unheard.
func TestPressHearsEachBit(t *testing.T) {
	s := source(53)
	state, block := s.state(), s.block()
	seen := map[[8]uint32]int{Press(state, block): -1}
	note := func(i int, result [8]uint32) {
		t.Helper()
		if other, taken := seen[result]; taken {
			t.Fatalf("bits %d and %d give the same state", other, i)
		}
		seen[result] = i
	}
	for i := range 256 {
		other := state
		other[i/32] ^= 1 << (i % 32)
		note(i, Press(other, block))
	}
	for i := range 512 {
		other := block
		other[i/8] ^= 1 << (i % 8)
		note(256+i, Press(state, other))
	}
}

// P5.1, P5.2: a call answers the same, whatever was called before it.
func TestCallsDoNotHearOneAnother(t *testing.T) {
	s := source(54)
	state, block, text := s.state(), s.block(), s.bytes(100)
	pressed, sum := Press(state, block), Hash(text)
	for range 10 {
		Press(s.state(), s.block())
		Hash(s.bytes(200))
		if Press(state, block) != pressed || Hash(text) != sum {
			t.Fatal("a later call with the same arguments answers something else")
		}
	}
}

// P5.2: the chapter's examples and the standard's; the empty text may be nil.
func TestHashOfTheStandardsTexts(t *testing.T) {
	cases := []struct {
		text []byte
		want string
	}{
		{nil, "e3b0c44298fc1c149afbf4c8996fb92427ae41e4649b934ca495991b7852b855"},
		{[]byte{}, "e3b0c44298fc1c149afbf4c8996fb92427ae41e4649b934ca495991b7852b855"},
		{[]byte("abc"), "ba7816bf8f01cfea414140de5dae2223b00361a396177a9cb410ff61f20015ad"},
		{[]byte("abcdbcdecdefdefgefghfghighijhijkijkljklmklmnlmnomnopnopq"), "248d6a61d20638b8e5c026930c3e6039a33ce45964ff2167f6ecedd419db06c1"},
		{[]byte("abcdefghbcdefghicdefghijdefghijkefghijklfghijklmghijklmnhijklmnoijklmnopjklmnopqklmnopqrlmnopqrsmnopqrstnopqrstu"), "cf5b16a778af8380036ce59e7b0492370b249b11e8f07a51afac45037afee9d1"},
		{[]byte(strings.Repeat("a", 1000000)), "cdc76e5c9914fb9281a1c7e284d73e67f1809a48a497200e046d39ccc7112cd0"},
		{[]byte{0xbd}, "68325720aabd7c82f30f554b313d0570c95accbb7dc4b5aae11204c08ffe732b"},
		{make([]byte, 55), "02779466cdec163811d078815c633f21901413081449002f24aa3e80f0b88ef7"},
		{make([]byte, 56), "d4817aa5497628e7c77e6b606107042bbba3130888c5f47a375e6179be789fbb"},
		{make([]byte, 57), "65a16cb7861335d5ace3c60718b5052e44660726da4cd13bb745381b235a1785"},
		{make([]byte, 64), "f5a5fd42d16a20302798ef6ed309979b43003d2320d9f0e8ea9831a92759fb4b"},
	}
	for _, c := range cases {
		if got := Hash(c.text); got != sumOfDigits(t, c.want) {
			t.Errorf("of %d bytes: %x, want %s", len(c.text), got, c.want)
		}
	}
}

// P5.2: against the library, each length up to some blocks.
func TestHashOfEachLength(t *testing.T) {
	s := source(55)
	for length := range 600 {
		for _, text := range [][]byte{s.bytes(length), make([]byte, length), bytes.Repeat([]byte{0xff}, length)} {
			if got, want := Hash(text), api.Sum(sha256.Sum256(text)); got != want {
				t.Fatalf("Hash(%x) = %x, want %x", text, got, want)
			}
		}
	}
}

// P5.2: the whole message made first, as the chapter words it.
func TestHashFollowsItsWording(t *testing.T) {
	k, s := cubeRoots(), source(56)
	for _, length := range chosenLengths() {
		text := s.bytes(length)
		if got, want := Hash(text), hashByWording(k, text); got != want {
			t.Errorf("Hash(%x) = %x, want %x", text, got, want)
		}
	}
}

// P5.2: texts whose length needs two and three bytes.
func TestHashOfLongTexts(t *testing.T) {
	s := source(57)
	for _, length := range []int{8191, 8192, 8193, 65535, 65536, 1<<21 - 1, 1 << 21} {
		text := s.bytes(length)
		if got, want := Hash(text), api.Sum(sha256.Sum256(text)); got != want {
			t.Errorf("of %d bytes: %x, want %x", length, got, want)
		}
	}
}

// P5.2: the length in bits has more than 32 of them.
func TestHashOfAGreatLength(t *testing.T) {
	if testing.Short() {
		t.Skip("takes some seconds")
	}
	text := make([]byte, 1<<29)
	if got, want := Hash(text), api.Sum(sha256.Sum256(text)); got != want {
		t.Errorf("of %d bytes: %x, want %x", len(text), got, want)
	}
}

// P5.2: what stands behind a text to fill its last block is told from a text that ends so.
func TestHashTellsTextsFromTheirFilling(t *testing.T) {
	s := source(58)
	for _, length := range chosenLengths() {
		text := s.bytes(length)
		sum := Hash(text)
		filled := append(slices.Clone(text), 0x80)
		for range 130 {
			if Hash(filled) == sum {
				t.Fatalf("%d bytes and %d, the first ones filled up, have the same digest", length, len(filled))
			}
			filled = append(filled, 0)
		}
	}
}

// P5.2: no bit of the text goes unheard, in whichever block it stands.
func TestHashHearsEachBit(t *testing.T) {
	s := source(59)
	text := s.bytes(150)
	seen := map[api.Sum]int{Hash(text): -1}
	for i := range 8 * len(text) {
		text[i/8] ^= 1 << (i % 8)
		sum := Hash(text)
		text[i/8] ^= 1 << (i % 8)
		if other, taken := seen[sum]; taken {
			t.Fatalf("bits %d and %d give the same digest", other, i)
		}
		seen[sum] = i
	}
}

// P5.2: the text is left alone, and so is what stands behind it, which does not count.
func TestHashLeavesItsTextAlone(t *testing.T) {
	s := source(60)
	for _, length := range chosenLengths() {
		whole := s.bytes(length + 200)
		before := slices.Clone(whole)
		got := Hash(whole[:length])
		if !bytes.Equal(whole, before) {
			t.Errorf("%d bytes: the text, or what is behind it, was written on", length)
		}
		if want := api.Sum(sha256.Sum256(before[:length])); got != want {
			t.Errorf("%d bytes with spare ones: %x, want %x", length, got, want)
		}
	}
}

// endByWording presses the rest of a text, filled up as the chapter says, from the state till then.
func endByWording(state [8]uint32, rest []byte, length int) api.Sum {
	message := append(slices.Clone(rest), 0x80)
	for len(message)%64 != 56 {
		message = append(message, 0)
	}
	message = binary.BigEndian.AppendUint64(message, uint64(length)*8)
	for block := range slices.Chunk(message, 64) {
		state = Press(state, [64]byte(block))
	}
	return api.Sum(bytesOfState(state))
}

// P5.3: from the state after each number of blocks, the rest leads to the digest of the whole, here and in the library.
func TestHashGoesOnFromEachState(t *testing.T) {
	s := source(61)
	for _, length := range chosenLengths() {
		text := s.bytes(length)
		want := Hash(text)
		state := squareRoots()
		for blocks := 0; ; blocks++ {
			rest := text[64*blocks:]
			if got := endByWording(state, rest, length); got != want {
				t.Fatalf("%d bytes, from block %d on: %x, want %x", length, blocks, got, want)
			}
			h := libraryAt(t, state, blocks)
			h.Write(rest)
			if got := api.Sum(h.Sum(nil)); got != want {
				t.Fatalf("%d bytes, by the library from block %d on: %x, want %x", length, blocks, got, want)
			}
			if len(rest) < 64 {
				break
			}
			state = Press(state, [64]byte(rest))
		}
	}
}

// P5.3: a state that is kept serves for as many texts as begin so.
func TestOneStateServesManyTexts(t *testing.T) {
	s := source(62)
	front := s.bytes(128)
	state := Press(Press(squareRoots(), [64]byte(front)), [64]byte(front[64:]))
	for length := range 200 {
		rest := s.bytes(length)
		got, want := endByWording(state, rest, len(front)+length), Hash(slices.Concat(front, rest))
		if got != want {
			t.Fatalf("128 bytes and %d: %x, want %x", length, got, want)
		}
	}
}
