package block

import (
	"bytes"
	"crypto/cipher"
	"encoding/hex"
	"math/big"
	"slices"
	"testing"

	"strongroom/api"
)

// identity is the polynomial 1.
var identity = api.Block{0: 0x80}

func bytesOf(t *testing.T, digits string) []byte {
	t.Helper()
	b, err := hex.DecodeString(digits)
	if err != nil {
		t.Fatalf("%q is not in hexadecimal", digits)
	}
	return b
}

func fixed(t *testing.T, digits string) api.Block {
	t.Helper()
	b := bytesOf(t, digits)
	if len(b) != 16 {
		t.Fatalf("%q is not 16 bytes", digits)
	}
	return api.Block(b)
}

// power is the block of x^i, bits counted as the chapter counts them.
func power(i int) api.Block {
	var b api.Block
	b[i/8] = 0x80 >> (i % 8)
	return b
}

// source gives bytes without a pattern, the same ones in each run.
type source uint32

func (s *source) next() byte {
	*s = *s*1664525 + 1013904223
	return byte(*s >> 24)
}

func (s *source) bytes(length int) []byte {
	b := make([]byte, length)
	for i := range b {
		b[i] = s.next()
	}
	return b
}

func (s *source) block() api.Block {
	return api.Block(s.bytes(16))
}

// chosenBlocks holds the edges (all bits 0, all bits 1, a single bit at each end and where the halves and the reduction meet) and ordinary blocks.
func chosenBlocks() []api.Block {
	var ones api.Block
	for i := range ones {
		ones[i] = 0xff
	}
	all := []api.Block{{}, ones}
	for _, i := range []int{0, 1, 2, 7, 8, 63, 64, 120, 121, 126, 127} {
		all = append(all, power(i))
	}
	s := source(3)
	for range 20 {
		all = append(all, s.block())
	}
	return all
}

// polynomialProduct multiplies whole polynomials first and divides afterwards, so that it shares no step with Mul.
func polynomialProduct(a, b api.Block) api.Block {
	long := new(big.Int)
	for i := range 128 {
		for j := range 128 {
			bit := uint(a[i/8]>>(7-i%8)&1) * uint(b[j/8]>>(7-j%8)&1)
			long.SetBit(long, i+j, long.Bit(i+j)^bit)
		}
	}
	for degree := 254; degree >= 128; degree-- {
		if long.Bit(degree) == 1 {
			for _, part := range []int{128, 7, 2, 1, 0} {
				at := degree - 128 + part
				long.SetBit(long, at, long.Bit(at)^1)
			}
		}
	}
	var product api.Block
	for i := range 128 {
		product[i/8] |= byte(long.Bit(i)) << (7 - i%8)
	}
	return product
}

// P3.1: ordinary blocks and the edges: all bits 0 and all bits 1.
func TestXorOfChosenBlocks(t *testing.T) {
	cases := []struct{ a, b, want string }{
		{"00112233445566778899aabbccddeeff", "0f0e0d0c0b0a09080706050403020100", "0f1f2f3f4f5f6f7f8f9fafbfcfdfefff"},
		{"66e94bd4ef8a2c3b884cfa59ca342b2e", "0388dace60b6a392f328c2b971b2fe78", "6561911a8f3c8fa97b6438e0bb86d556"},
		{"00000000000000000000000000000000", "00000000000000000000000000000000", "00000000000000000000000000000000"},
		{"ffffffffffffffffffffffffffffffff", "00000000000000000000000000000000", "ffffffffffffffffffffffffffffffff"},
		{"ffffffffffffffffffffffffffffffff", "ffffffffffffffffffffffffffffffff", "00000000000000000000000000000000"},
		{"80000000000000000000000000000001", "80000000000000000000000000000000", "00000000000000000000000000000001"},
	}
	for _, c := range cases {
		if got := Xor(fixed(t, c.a), fixed(t, c.b)); got != fixed(t, c.want) {
			t.Errorf("Xor(%s, %s) = %x, want %s", c.a, c.b, got, c.want)
		}
		if got := Xor(fixed(t, c.b), fixed(t, c.a)); got != fixed(t, c.want) {
			t.Errorf("Xor(%s, %s) = %x, want %s", c.b, c.a, got, c.want)
		}
	}
}

// P3.1: every place takes the exclusive or of that place alone.
func TestXorIsByteByByte(t *testing.T) {
	for _, a := range chosenBlocks() {
		for _, b := range chosenBlocks() {
			got := Xor(a, b)
			for i := range 16 {
				if got[i] != a[i]^b[i] {
					t.Fatalf("byte %d of Xor(%x, %x) is %#x", i, a, b, got[i])
				}
			}
		}
	}
}

// P3.1: the chapter's example, products that the GCM specification lists, and the edges: 0, 1, and the powers that are reduced.
func TestMulOfChosenBlocks(t *testing.T) {
	cases := []struct{ a, b, want string }{
		{"66e94bd4ef8a2c3b884cfa59ca342b2e", "0388dace60b6a392f328c2b971b2fe78", "5e2ec746917062882c85b0685353deb7"},
		{"66e94bd4ef8a2c3b884cfa59ca342b2e", "5e2ec746917062882c85b0685353de37", "f38cbb1ad69223dcc3457ae5b6b0f885"},
		{"66e94bd4ef8a2c3b884cfa59ca342b2e", "00000000000000000000000000000000", "00000000000000000000000000000000"},
		{"66e94bd4ef8a2c3b884cfa59ca342b2e", "80000000000000000000000000000000", "66e94bd4ef8a2c3b884cfa59ca342b2e"},
		{"00000000000000000000000000000000", "00000000000000000000000000000000", "00000000000000000000000000000000"},
		{"80000000000000000000000000000000", "80000000000000000000000000000000", "80000000000000000000000000000000"},
		{"40000000000000000000000000000000", "00000000000000010000000000000000", "00000000000000008000000000000000"},
		{"40000000000000000000000000000000", "00000000000000000000000000000001", "e1000000000000000000000000000000"},
		{"20000000000000000000000000000000", "00000000000000000000000000000001", "70800000000000000000000000000000"},
		{"00000000000000000000000000000001", "00000000000000000000000000000001", "e6080000000000000000000000000003"},
	}
	for _, c := range cases {
		if got := Mul(fixed(t, c.a), fixed(t, c.b)); got != fixed(t, c.want) {
			t.Errorf("Mul(%s, %s) = %x, want %s", c.a, c.b, got, c.want)
		}
		if got := Mul(fixed(t, c.b), fixed(t, c.a)); got != fixed(t, c.want) {
			t.Errorf("Mul(%s, %s) = %x, want %s", c.b, c.a, got, c.want)
		}
	}
}

// P3.1: all pairs of powers of x; with the law of distribution they say what every product is.
func TestMulOfPowersIsThePowerOfTheSum(t *testing.T) {
	powers := []api.Block{identity}
	for range 254 {
		powers = append(powers, polynomialProduct(powers[len(powers)-1], power(1)))
	}
	for i := range 128 {
		if powers[i] != power(i) {
			t.Fatalf("x^%d is %x", i, powers[i])
		}
		for j := range 128 {
			if got := Mul(power(i), power(j)); got != powers[i+j] {
				t.Fatalf("x^%d times x^%d is %x, want %x", i, j, got, powers[i+j])
			}
		}
	}
}

// P3.1
func TestMulIsThePolynomialProduct(t *testing.T) {
	for _, a := range chosenBlocks() {
		for _, b := range chosenBlocks() {
			if got, want := Mul(a, b), polynomialProduct(a, b); got != want {
				t.Fatalf("Mul(%x, %x) = %x, want %x", a, b, got, want)
			}
		}
	}
}

// P3.2: the hashes that the GCM specification lists for its test cases 2 and 14 to 16; the last one's texts end within a group.
func TestHashOfTheSpecificationsTexts(t *testing.T) {
	long := "522dc1f099567d07f47f37a32a84427d643a8cdcbfe5c0c97598a2bd2555d1aa" +
		"8cb08e48590dbb3da7b08b1056828838c5f61e6393ba7a0abcc9f662"
	cases := []struct{ h, text, want string }{
		{
			"66e94bd4ef8a2c3b884cfa59ca342b2e",
			"0388dace60b6a392f328c2b971b2fe78" + "00000000000000000000000000000080",
			"f38cbb1ad69223dcc3457ae5b6b0f885",
		},
		{
			"dc95c078a2408989ad48a21492842087",
			"cea7403d4d606b6e074ec5d3baf39d18" + "00000000000000000000000000000080",
			"83de425c5edc5d498f382c441041ca92",
		},
		{
			"acbef20579b4b8ebce889bac8732dad7",
			long + "898015ad" + "00000000000000000000000000000200",
			"4db870d37cb75fcb46097c36230d1612",
		},
		{
			"acbef20579b4b8ebce889bac8732dad7",
			"feedfacedeadbeeffeedfacedeadbeefabaddad2" + "000000000000000000000000" +
				long + "00000000" + "00000000000000a000000000000001e0",
			"8bd0c4d8aacd391e67cca447e8c38f65",
		},
	}
	for _, c := range cases {
		if got := Hash(fixed(t, c.h), bytesOf(t, c.text)); got != fixed(t, c.want) {
			t.Errorf("Hash(%s, %s) = %x, want %s", c.h, c.text, got, c.want)
		}
	}
}

// hashByWording pads first and sums afterwards: the i-th group of n is multiplied n - i times by h.
func hashByWording(h api.Block, b []byte) api.Block {
	padded := slices.Clone(b)
	for len(padded)%16 != 0 {
		padded = append(padded, 0)
	}
	var sum api.Block
	factor := identity
	for end := len(padded); end > 0; end -= 16 {
		factor = polynomialProduct(factor, h)
		product := polynomialProduct(factor, api.Block(padded[end-16:end]))
		for i := range sum {
			sum[i] ^= product[i]
		}
	}
	return sum
}

// P3.2: every length up to three groups, and with them no bytes, one byte, and lengths about a whole group.
func TestHashOfEachLength(t *testing.T) {
	s := source(32)
	for length := range 50 {
		h, text := s.block(), s.bytes(length)
		if got, want := Hash(h, text), hashByWording(h, text); got != want {
			t.Errorf("Hash(%x, %x) = %x, want %x", h, text, got, want)
		}
	}
}

// P3.2: no bytes, nil or not, are no group at all; zero bytes and h 0 give 0.
func TestHashOfNothing(t *testing.T) {
	for _, h := range chosenBlocks() {
		for _, text := range [][]byte{nil, {}, make([]byte, 1), make([]byte, 16), make([]byte, 40)} {
			if got := Hash(h, text); got != (api.Block{}) {
				t.Errorf("Hash(%x, %x) = %x, want 0", h, text, got)
			}
		}
	}
	s := source(33)
	if got := Hash(api.Block{}, s.bytes(40)); got != (api.Block{}) {
		t.Errorf("Hash with 0 = %x, want 0", got)
	}
}

// P3.2: zero bytes behind the last group's bytes change nothing; behind a whole group they are a group of their own.
func TestHashPadsAtTheEnd(t *testing.T) {
	s := source(34)
	h := s.block()
	for length := 1; length <= 32; length++ {
		text := s.bytes(length)
		text[length-1] |= 1
		want := Hash(h, text)
		for padded := text; ; {
			same := Hash(h, padded) == want
			if whole := (length + 15) / 16 * 16; same != (len(padded) <= whole) {
				t.Fatalf("%d bytes and %d zero bytes: the same hash is %t", length, len(padded)-length, same)
			} else if len(padded) > whole {
				break
			}
			padded = append(slices.Clip(padded), 0)
		}
	}
}

// tagCipher maps the block of zero bytes to h and all others to zero bytes: a GCM tag made with it is the hash itself.
type tagCipher struct{ h api.Block }

func (c tagCipher) BlockSize() int { return 16 }

func (c tagCipher) Encrypt(to, from []byte) {
	zero := bytes.Equal(from[:16], make([]byte, 16))
	clear(to[:16])
	if zero {
		copy(to, c.h[:])
	}
}

func (c tagCipher) Decrypt(to, from []byte) {}

// P3.2: against the library's own GHASH, up to some kilobytes.
func TestHashIsTheLibrarys(t *testing.T) {
	s := source(35)
	for _, length := range []int{0, 1, 15, 16, 17, 31, 32, 33, 100, 4095, 4096, 5000} {
		h, beside := s.block(), s.bytes(length)
		library, err := cipher.NewGCM(tagCipher{h})
		if err != nil {
			t.Fatal(err)
		}
		want := library.Seal(nil, make([]byte, 12), nil, beside)
		text := append(slices.Clone(beside), make([]byte, (16-length%16)%16)...)
		text = append(text, 0, 0, 0, 0, 0, 0, 0, 0, 0, 0, 0, 0, 0, 0, 0, 0)
		for i, rest := len(text)-9, length*8; rest > 0; i, rest = i-1, rest/256 {
			text[i] = byte(rest)
		}
		if got := Hash(h, text); !bytes.Equal(got[:], want) {
			t.Errorf("%d bytes: %x, want %x", length, got, want)
		}
	}
}

// P3.2: neither the bytes nor the spare capacity behind them are changed, and the spare ones don't count.
func TestHashLeavesItsBytesAlone(t *testing.T) {
	s := source(36)
	for length := range 34 {
		h, room := s.block(), s.bytes(64)
		before := slices.Clone(room)
		got := Hash(h, room[:length])
		if !bytes.Equal(room, before) {
			t.Fatalf("%d bytes: what was given is changed", length)
		}
		if want := Hash(h, slices.Clip(slices.Clone(room[:length]))); got != want {
			t.Fatalf("%d bytes: %x, without the spare ones %x", length, got, want)
		}
	}
}

// P3.3: the chapter's example, ordinary blocks, and carries over each byte and past the last.
func TestNextOfChosenBlocks(t *testing.T) {
	cases := []struct{ b, want string }{
		{"000000000000000000000000ffffffff", "00000000000000000000000000000000"},
		{"00000000000000000000000000000000", "00000000000000000000000000000001"},
		{"cafebabefacedbaddecaf88800000001", "cafebabefacedbaddecaf88800000002"},
		{"cafebabefacedbaddecaf888000000fe", "cafebabefacedbaddecaf888000000ff"},
		{"cafebabefacedbaddecaf888000000ff", "cafebabefacedbaddecaf88800000100"},
		{"cafebabefacedbaddecaf8880000ffff", "cafebabefacedbaddecaf88800010000"},
		{"cafebabefacedbaddecaf88800ffffff", "cafebabefacedbaddecaf88801000000"},
		{"cafebabefacedbaddecaf88812ff34ff", "cafebabefacedbaddecaf88812ff3500"},
		{"cafebabefacedbaddecaf8887fffffff", "cafebabefacedbaddecaf88880000000"},
		{"cafebabefacedbaddecaf888fffffffe", "cafebabefacedbaddecaf888ffffffff"},
		{"cafebabefacedbaddecaf888ffffffff", "cafebabefacedbaddecaf88800000000"},
		{"ffffffffffffffffffffffffffffffff", "ffffffffffffffffffffffff00000000"},
		{"fffffffffffffffffffffffe00000000", "fffffffffffffffffffffffe00000001"},
	}
	for _, c := range cases {
		if got := Next(fixed(t, c.b)); got != fixed(t, c.want) {
			t.Errorf("Next(%s) = %x, want %s", c.b, got, c.want)
		}
	}
}

// P3.3: as a number of 32 bits, and nothing ahead of it touched.
func TestNextCountsTheLastFourBytes(t *testing.T) {
	s := source(37)
	for _, b := range chosenBlocks() {
		b = Xor(b, api.Block{0: s.next(), 11: s.next()})
		for range 600 {
			got := Next(b)
			number := func(b api.Block) uint32 {
				return uint32(b[12])<<24 | uint32(b[13])<<16 | uint32(b[14])<<8 | uint32(b[15])
			}
			if number(got) != number(b)+1 || [12]byte(got[:12]) != [12]byte(b[:12]) {
				t.Fatalf("Next(%x) = %x", b, got)
			}
			b = got
		}
	}
}

// P3.4
func TestMulIsCommutative(t *testing.T) {
	for _, a := range chosenBlocks() {
		for _, b := range chosenBlocks() {
			if Mul(a, b) != Mul(b, a) {
				t.Fatalf("Mul(%x, %x) is not Mul(%x, %x)", a, b, b, a)
			}
		}
	}
}

// P3.4
func TestMulIsAssociativeAndDistributes(t *testing.T) {
	for _, a := range chosenBlocks() {
		for _, b := range chosenBlocks() {
			for _, c := range chosenBlocks() {
				if Mul(Mul(a, b), c) != Mul(a, Mul(b, c)) {
					t.Fatalf("not associative: %x, %x, %x", a, b, c)
				}
				if Mul(a, Xor(b, c)) != Xor(Mul(a, b), Mul(a, c)) {
					t.Fatalf("not distributive: %x, %x, %x", a, b, c)
				}
			}
		}
	}
}

// P3.4
func TestMulHasAnIdentity(t *testing.T) {
	for _, a := range chosenBlocks() {
		if Mul(a, identity) != a || Mul(identity, a) != a {
			t.Errorf("%x times 1 is %x, 1 times it %x", a, Mul(a, identity), Mul(identity, a))
		}
	}
}

// P3.4: each longer sequence from the one before it.
func TestHashGoesOnFromTheBlocksBefore(t *testing.T) {
	for _, h := range chosenBlocks() {
		var text []byte
		before := Hash(h, text)
		for _, last := range chosenBlocks() {
			text = append(text, last[:]...)
			got, want := Hash(h, text), Mul(h, Xor(last, before))
			if got != want {
				t.Fatalf("Hash(%x, %x) = %x, want %x", h, text, got, want)
			}
			before = got
		}
	}
}
