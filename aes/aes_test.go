package aes

import (
	standard "crypto/aes"
	"encoding/hex"
	"testing"

	"strongroom/api"
	"strongroom/octet"
)

func bytesOf(t *testing.T, digits string, length int) []byte {
	t.Helper()
	b, err := hex.DecodeString(digits)
	if err != nil || len(b) != length {
		t.Fatalf("%q is not %d bytes in hexadecimal", digits, length)
	}
	return b
}

func keyOf(t *testing.T, digits string) api.Key {
	t.Helper()
	return api.Key(bytesOf(t, digits, 32))
}

func blockOf(t *testing.T, digits string) api.Block {
	t.Helper()
	return api.Block(bytesOf(t, digits, 16))
}

// source gives bytes without a pattern, the same ones in each run.
type source uint32

func (s *source) next() byte {
	*s = *s*1664525 + 1013904223
	return byte(*s >> 24)
}

func (s *source) block() api.Block {
	var b api.Block
	for i := range b {
		b[i] = s.next()
	}
	return b
}

func (s *source) key() api.Key {
	var k api.Key
	for i := range k {
		k[i] = s.next()
	}
	return k
}

func filled(b byte) (api.Key, api.Block) {
	var k api.Key
	var c api.Block
	for i := range k {
		k[i], c[i/2] = b, b
	}
	return k, c
}

// chosenKeys holds ordinary keys, those of the standards, and the edges: all bits 0, all bits 1, and a single bit.
func chosenKeys(t *testing.T) []api.Key {
	zero, _ := filled(0)
	ones, _ := filled(0xff)
	keys := []api.Key{zero, ones, {0: 0x80}, {31: 1}, keyOf(t, countingKey), keyOf(t, vectorKey)}
	s := source(2)
	for range 20 {
		keys = append(keys, s.key())
	}
	return keys
}

// countingKey is the key of the chapter's example and of FIPS 197, C.3.
const countingKey = "000102030405060708090a0b0c0d0e0f101112131415161718191a1b1c1d1e1f"

// vectorKey is the key of FIPS 197, A.3 and of SP 800-38A, F.1.5.
const vectorKey = "603deb1015ca71be2b73aef0857d77811f352c073b6108d72d9810a30914dff4"

// P2.1: every word that FIPS 197, A.3 lists, a block a line.
func TestExpandOfTheStandardsKey(t *testing.T) {
	want := [15]string{
		"603deb1015ca71be2b73aef0857d7781",
		"1f352c073b6108d72d9810a30914dff4",
		"9ba354118e6925afa51a8b5f2067fcde",
		"a8b09c1a93d194cdbe49846eb75d5b9a",
		"d59aecb85bf3c917fee94248de8ebe96",
		"b5a9328a2678a647983122292f6c79b3",
		"812c81addadf48ba24360af2fab8b464",
		"98c5bfc9bebd198e268c3ba709e04214",
		"68007bacb2df331696e939e46c518d80",
		"c814e20476a9fb8a5025c02d59c58239",
		"de1369676ccc5a71fa2563959674ee15",
		"5886ca5d2e2f31d77e0af1fa27cf73c3",
		"749c47ab18501ddae2757e4f7401905a",
		"cafaaae3e4d59b349adf6acebd10190d",
		"fe4890d1e6188d0b046df344706c631e",
	}
	for i, got := range Expand(keyOf(t, vectorKey)) {
		if got != blockOf(t, want[i]) {
			t.Errorf("block %d is %x, want %s", i, got, want[i])
		}
	}
}

// P2.1: blocks that the published schedules of the key of zeros, of the key of ones and of the chapter's key have.
func TestExpandOfChosenKeys(t *testing.T) {
	zero, _ := filled(0)
	ones, _ := filled(0xff)
	cases := []struct {
		key  api.Key
		at   int
		want string
	}{
		{zero, 0, "00000000000000000000000000000000"},
		{zero, 1, "00000000000000000000000000000000"},
		{zero, 2, "62636363626363636263636362636363"},
		{zero, 3, "aafbfbfbaafbfbfbaafbfbfbaafbfbfb"},
		{zero, 4, "6f6c6ccf0d0f0fac6f6c6ccf0d0f0fac"},
		{ones, 1, "ffffffffffffffffffffffffffffffff"},
		{ones, 2, "e8e9e9e917161616e8e9e9e917161616"},
		{ones, 3, "0fb8b8b8f04747470fb8b8b8f0474747"},
		{keyOf(t, countingKey), 0, "000102030405060708090a0b0c0d0e0f"},
		{keyOf(t, countingKey), 1, "101112131415161718191a1b1c1d1e1f"},
		{keyOf(t, countingKey), 2, "a573c29fa176c498a97fce93a572c09c"},
		{keyOf(t, countingKey), 14, "24fc79ccbf0979e9371ac23c6d68de36"},
	}
	for _, c := range cases {
		if got := Expand(c.key)[c.at]; got != blockOf(t, c.want) {
			t.Errorf("block %d of %x is %x, want %s", c.at, c.key, got, c.want)
		}
	}
}

// P2.1: word by word, as the chapter words it.
func TestExpandFollowsItsRule(t *testing.T) {
	powers := [...]byte{0x01, 0x02, 0x04, 0x08, 0x10, 0x20, 0x40}
	for _, key := range chosenKeys(t) {
		var all []byte
		for _, block := range Expand(key) {
			all = append(all, block[:]...)
		}
		for i := range 60 {
			for j := range 4 {
				want := byte(0)
				switch {
				case i < 8:
					want = key[4*i+j]
				case i%8 == 0:
					want = all[4*(i-8)+j] ^ octet.Box(all[4*(i-1)+(j+1)%4])
					if j == 0 {
						want ^= powers[i/8-1]
					}
				case i%8 == 4:
					want = all[4*(i-8)+j] ^ octet.Box(all[4*(i-1)+j])
				default:
					want = all[4*(i-8)+j] ^ all[4*(i-1)+j]
				}
				if got := all[4*i+j]; got != want {
					t.Fatalf("byte %d of word %d of %x is %#x, want %#x", j, i, key, got, want)
				}
			}
		}
	}
}

// P2.2: the states that FIPS 197, C.3 lists at the start of each round, and what comes out at last.
func TestRoundOfTheStandardsStates(t *testing.T) {
	states := [15]string{
		"00102030405060708090a0b0c0d0e0f0",
		"4f63760643e0aa85efa7213201a4e705",
		"1859fbc28a1c00a078ed8aadc42f6109",
		"975c66c1cb9f3fa8a93a28df8ee10f63",
		"1c05f271a417e04ff921c5c104701554",
		"c357aae11b45b7b0a2c7bd28a8dc99fa",
		"7f074143cb4e243ec10c815d8375d54c",
		"d653a4696ca0bc0f5acaab5db96c5e7d",
		"5aa858395fd28d7d05e1a38868f3b9c5",
		"4a824851c57e7e47643de50c2af3e8c9",
		"c14907f6ca3b3aa070e9aa313b52b5ec",
		"5f9c6abfbac634aa50409fa766677653",
		"516604954353950314fb86e401922521",
		"627bceb9999d5aaac945ecf423f56da5",
		"8ea2b7ca516745bfeafc49904b496089",
	}
	keys := Expand(keyOf(t, countingKey))
	for i := range 14 {
		got := Round(blockOf(t, states[i]), keys[i+1], i == 13)
		if got != blockOf(t, states[i+1]) {
			t.Errorf("round %d: %x, want %s", i+1, got, states[i+1])
		}
	}
}

// P2.2: the steps of the first round of FIPS 197, C.3, and the edges: all bits 0 and all bits 1.
func TestRoundWithAndWithoutColumns(t *testing.T) {
	cases := []struct {
		state, key string
		last       bool
		want       string
	}{
		{"00102030405060708090a0b0c0d0e0f0", "00000000000000000000000000000000", true, "6353e08c0960e104cd70b751bacad0e7"},
		{"00102030405060708090a0b0c0d0e0f0", "00000000000000000000000000000000", false, "5f72641557f5bc92f7be3b291db9f91a"},
		{"00000000000000000000000000000000", "00000000000000000000000000000000", true, "63636363636363636363636363636363"},
		{"00000000000000000000000000000000", "00000000000000000000000000000000", false, "63636363636363636363636363636363"},
		{"ffffffffffffffffffffffffffffffff", "ffffffffffffffffffffffffffffffff", true, "e9e9e9e9e9e9e9e9e9e9e9e9e9e9e9e9"},
		{"ffffffffffffffffffffffffffffffff", "ffffffffffffffffffffffffffffffff", false, "e9e9e9e9e9e9e9e9e9e9e9e9e9e9e9e9"},
	}
	for _, c := range cases {
		if got := Round(blockOf(t, c.state), blockOf(t, c.key), c.last); got != blockOf(t, c.want) {
			t.Errorf("Round(%s, %s, %t) = %x, want %s", c.state, c.key, c.last, got, c.want)
		}
	}
}

// roundByRows does a round on rows and columns, column by column as the chapter writes the sums, so that it shares no step with Round but octet's.
func roundByRows(s, k api.Block, last bool) api.Block {
	var rows [4][4]byte
	for r := range 4 {
		for c := range 4 {
			rows[r][c] = octet.Box(s[4*c+r])
		}
		rest := append([]byte{}, rows[r][:r]...)
		copy(rows[r][:], append(append([]byte{}, rows[r][r:]...), rest...))
	}
	var result api.Block
	for c := range 4 {
		a0, a1, a2, a3 := rows[0][c], rows[1][c], rows[2][c], rows[3][c]
		column := [4]byte{a0, a1, a2, a3}
		if !last {
			column = [4]byte{
				octet.Mul(2, a0) ^ octet.Mul(3, a1) ^ a2 ^ a3,
				a0 ^ octet.Mul(2, a1) ^ octet.Mul(3, a2) ^ a3,
				a0 ^ a1 ^ octet.Mul(2, a2) ^ octet.Mul(3, a3),
				octet.Mul(3, a0) ^ a1 ^ a2 ^ octet.Mul(2, a3),
			}
		}
		for r := range 4 {
			result[4*c+r] = column[r] ^ k[4*c+r]
		}
	}
	return result
}

// P2.2: states without a pattern, and each byte alone, so that the way of every place is seen.
func TestRoundFollowsItsSteps(t *testing.T) {
	s := source(22)
	var states []api.Block
	for i := range 16 {
		for _, b := range []byte{0x01, 0x52, 0xff} {
			var alone api.Block
			alone[i] = b
			states = append(states, alone)
		}
	}
	for range 200 {
		states = append(states, s.block())
	}
	for _, state := range states {
		key := s.block()
		for _, last := range []bool{false, true} {
			got, want := Round(state, key, last), roundByRows(state, key, last)
			if got != want {
				t.Fatalf("Round(%x, %x, %t) = %x, want %x", state, key, last, got, want)
			}
		}
	}
}

// P2.3: the chapter's example, the vectors of SP 800-38A, F.1.5, and the edges: all bits 0 and all bits 1.
func TestEncryptOfChosenBlocks(t *testing.T) {
	zeros := "0000000000000000000000000000000000000000000000000000000000000000"
	cases := []struct{ key, block, want string }{
		{countingKey, "00112233445566778899aabbccddeeff", "8ea2b7ca516745bfeafc49904b496089"},
		{vectorKey, "6bc1bee22e409f96e93d7e117393172a", "f3eed1bdb5d2a03c064b5a7e3db181f8"},
		{vectorKey, "ae2d8a571e03ac9c9eb76fac45af8e51", "591ccb10d410ed26dc5ba74a31362870"},
		{vectorKey, "30c81c46a35ce411e5fbc1191a0a52ef", "b6ed21b99ca6f4f9f153e7b1beafed1d"},
		{vectorKey, "f69f2445df4f9b17ad2b417be66c3710", "23304b7a39f9f3ff067d8d8f9e24ecc7"},
		{zeros, "00000000000000000000000000000000", "dc95c078a2408989ad48a21492842087"},
		{zeros, "ffffffffffffffffffffffffffffffff", "acdace8078a32b1a182bfa4987ca1347"},
	}
	for _, c := range cases {
		if got := Encrypt(keyOf(t, c.key), blockOf(t, c.block)); got != blockOf(t, c.want) {
			t.Errorf("Encrypt(%s, %s) = %x, want %s", c.key, c.block, got, c.want)
		}
	}
}

// P2.3: against the library's own AES.
func TestEncryptIsTheStandardsCipher(t *testing.T) {
	s := source(23)
	_, zero := filled(0)
	_, ones := filled(0xff)
	for _, key := range chosenKeys(t) {
		cipher, err := standard.NewCipher(key[:])
		if err != nil {
			t.Fatal(err)
		}
		for _, block := range []api.Block{zero, ones, {0: 0x80}, {15: 1}, s.block(), s.block(), s.block()} {
			var want api.Block
			cipher.Encrypt(want[:], block[:])
			if got := Encrypt(key, block); got != want {
				t.Fatalf("Encrypt(%x, %x) = %x, want %x", key, block, got, want)
			}
		}
	}
}

// P2.3: from Expand and Round, as the chapter words it.
func TestEncryptIsMadeOfRounds(t *testing.T) {
	s := source(24)
	for _, key := range chosenKeys(t) {
		keys, block := Expand(key), s.block()
		want := block
		for i := range want {
			want[i] ^= keys[0][i]
		}
		for i := 1; i <= 13; i++ {
			want = Round(want, keys[i], false)
		}
		want = Round(want, keys[14], true)
		if got := Encrypt(key, block); got != want {
			t.Fatalf("Encrypt(%x, %x) = %x, want %x", key, block, got, want)
		}
	}
}

// neighbours holds a block, all that differ from it by one bit, and all that differ from it by the last byte.
func neighbours(b api.Block) []api.Block {
	all := []api.Block{b}
	for i := range 128 {
		other := b
		other[i/8] ^= 1 << (i % 8)
		all = append(all, other)
	}
	for i := 1; i < 256; i++ {
		other := b
		other[15] ^= byte(i)
		if i&(i-1) != 0 {
			all = append(all, other)
		}
	}
	return all
}

// P2.4: blocks that are near to one another go to different ones, and the library's AES leads each of them back.
func TestEncryptKeepsBlocksApart(t *testing.T) {
	s := source(25)
	for _, key := range chosenKeys(t)[:8] {
		cipher, err := standard.NewCipher(key[:])
		if err != nil {
			t.Fatal(err)
		}
		from := map[api.Block]api.Block{}
		for _, block := range neighbours(s.block()) {
			got := Encrypt(key, block)
			if other, taken := from[got]; taken {
				t.Fatalf("with %x, %x and %x both go to %x", key, other, block, got)
			}
			from[got] = block
			var back api.Block
			cipher.Decrypt(back[:], got[:])
			if back != block {
				t.Fatalf("with %x, %x goes to %x, which comes from %x", key, block, got, back)
			}
		}
	}
}
