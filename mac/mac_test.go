package mac

import (
	"bytes"
	"crypto/hkdf"
	"crypto/hmac"
	"crypto/sha256"
	"encoding/hex"
	"math"
	"slices"
	"strings"
	"testing"

	"strongroom/api"
	"strongroom/sha"
)

func bytesOf(t *testing.T, digits string) []byte {
	t.Helper()
	b, err := hex.DecodeString(digits)
	if err != nil {
		t.Fatalf("%q is not in hexadecimal", digits)
	}
	return b
}

// source gives bytes without a pattern, the same ones in each run.
type source uint32

func (s *source) next() byte {
	*s = *s*1664525 + 1013904223
	return byte(*s >> 24)
}

func (s *source) bytes(length int) []byte {
	b := make([]byte, length)
	for i := range b {
		b[i] = s.next()
	}
	return b
}

// run is the bytes from first on, each greater by 1 than the one before.
func run(first byte, length int) []byte {
	b := make([]byte, length)
	for i := range b {
		b[i] = first + byte(i)
	}
	return b
}

func librarySum(key, b []byte) api.Sum {
	h := hmac.New(sha256.New, key)
	h.Write(b)
	return api.Sum(h.Sum(nil))
}

func libraryExpand(t *testing.T, key, info []byte, n int) []byte {
	t.Helper()
	b, err := hkdf.Expand(sha256.New, key, string(info), n)
	if err != nil {
		t.Fatal(err)
	}
	return b
}

// sumByWording does what the chapter says of Sum, step by step, on whole concatenations.
func sumByWording(key, b []byte) api.Sum {
	if len(key) > 64 {
		sum := sha.Hash(key)
		key = sum[:]
	}
	var inner, outer []byte
	for i := range 64 {
		at := byte(0)
		if i < len(key) {
			at = key[i]
		}
		inner, outer = append(inner, at^0x36), append(outer, at^0x5c)
	}
	sum := sha.Hash(append(inner, b...))
	return sha.Hash(append(outer, sum[:]...))
}

// expandByWording makes all that there is of t1, t2, and so on, and takes the first n bytes.
func expandByWording(key, info []byte, n int) []byte {
	var all, last []byte
	for i := 1; i <= 255; i++ {
		m := append(slices.Clone(last), info...)
		sum := sumByWording(key, append(m, byte(i)))
		last = sum[:]
		all = append(all, last...)
	}
	return all[:n]
}

// expand is Expand where it has to succeed.
func expand(t *testing.T, key, info []byte, n int) []byte {
	t.Helper()
	b, code := Expand(key, info, n)
	if code != api.OK {
		t.Fatalf("Expand(%x, %x, %d) gives the error %d", key, info, n, code)
	}
	return b
}

// chosenLengths are the lengths around a sum's, a block's, and where sha fills up a block.
func chosenLengths() []int {
	return []int{0, 1, 31, 32, 33, 54, 55, 56, 57, 63, 64, 65, 66, 96, 119, 120, 127, 128, 129, 200}
}

// chosenCounts are the numbers of bytes about whole sums, and the greatest one.
func chosenCounts() []int {
	return []int{0, 1, 2, 31, 32, 33, 63, 64, 65, 95, 96, 97, 127, 128, 129, 4095, 4096, 4097, 8127, 8128, 8129, 8159, 8160}
}

// numbersTo is the numbers from 0 up to last.
func numbersTo(last int) []int {
	numbers := make([]int, last+1)
	for n := range numbers {
		numbers[n] = n
	}
	return numbers
}

// P6.1: the chapter's example, RFC 4231's test cases, and a key as long as a block.
func TestSumOfTheStandardsTexts(t *testing.T) {
	longKey := strings.Repeat("\xaa", 131)
	cases := []struct{ key, text, want string }{
		{"Jefe", "what do ya want for nothing?", "5bdcc146bf60754e6a042426089575c75a003f089d2739839dec58b964ec3843"},
		{strings.Repeat("\x0b", 20), "Hi There", "b0344c61d8db38535ca8afceaf0bf12b881dc200c9833da726e9376c2e32cff7"},
		{strings.Repeat("\xaa", 20), strings.Repeat("\xdd", 50), "773ea91e36800e46854db8ebd09181a72959098b3ef8c122d9635514ced565fe"},
		{string(run(1, 25)), strings.Repeat("\xcd", 50), "82558a389a443c0ea4cc819899f2083a85f0faa3e578f8077a2e3ff46729665b"},
		{strings.Repeat("\x0c", 20), "Test With Truncation", "a3b6167473100ee06e0c796c2955552bfa6f7c0a6a8aef8b93f860aab0cd20c5"},
		{longKey, "Test Using Larger Than Block-Size Key - Hash Key First", "60e431591ee0b67f0d8a26aacbf5b77f8e0bc6213728c5140546040f0ee37f54"},
		{longKey, "This is a test using a larger than block-size key and a larger than block-size data. The key needs to be hashed before being used by the HMAC algorithm.", "9b09ffa71b942fcb27635fbcd5b0e944bfdc63644f0713938a7f51535c3a35e2"},
		{string(run(0, 64)), "Sample message for keylen=blocklen", "8bb9a1db9806f20df7f77b82138c7914d174d59e13dc4d0169c9057b133e1d62"},
		{"", "", "b613679a0814d9ec772f95d778c35fc5ff1697c493715653c6c712144292c5ad"},
	}
	for _, c := range cases {
		if got := Sum([]byte(c.key), []byte(c.text)); got != api.Sum(bytesOf(t, c.want)) {
			t.Errorf("Sum(%x, %x) = %x, want %s", c.key, c.text, got, c.want)
		}
	}
}

// P6.1: neither a key nor bytes, nil or not.
func TestSumOfNothing(t *testing.T) {
	want := librarySum(nil, nil)
	for _, key := range [][]byte{nil, {}} {
		for _, b := range [][]byte{nil, {}} {
			if got := Sum(key, b); got != want {
				t.Errorf("Sum(%#v, %#v) = %x, want %x", key, b, got, want)
			}
		}
	}
}

// P6.1: against the library, each length of the key, about those of a block too, by bytes of many lengths.
func TestSumOfEachLengthOfKey(t *testing.T) {
	s := source(61)
	for length := range 200 {
		for _, key := range [][]byte{s.bytes(length), make([]byte, length), bytes.Repeat([]byte{0xff}, length)} {
			b := s.bytes(length * 7 % 150)
			if got, want := Sum(key, b), librarySum(key, b); got != want {
				t.Fatalf("Sum(%x, %x) = %x, want %x", key, b, got, want)
			}
		}
	}
}

// P6.1: against the library, each length of the bytes, by keys of many lengths.
func TestSumOfEachLengthOfBytes(t *testing.T) {
	s := source(62)
	for length := range 300 {
		for _, b := range [][]byte{s.bytes(length), make([]byte, length)} {
			key := s.bytes(length * 11 % 140)
			if got, want := Sum(key, b), librarySum(key, b); got != want {
				t.Fatalf("Sum(%x, %x) = %x, want %x", key, b, got, want)
			}
		}
	}
}

// P6.1: great keys and great texts.
func TestSumOfGreatLengths(t *testing.T) {
	s := source(63)
	for _, c := range []struct{ key, text int }{{api.MaxText, 3}, {3, api.MaxText}, {1 << 17, 1 << 16}, {64, 1<<20 + 1}} {
		key, b := s.bytes(c.key), s.bytes(c.text)
		if got, want := Sum(key, b), librarySum(key, b); got != want {
			t.Errorf("%d bytes by a key of %d: %x, want %x", c.text, c.key, got, want)
		}
	}
}

// P6.1: as the chapter words it, on the project's own sha.
func TestSumFollowsItsWording(t *testing.T) {
	s := source(64)
	for _, i := range chosenLengths() {
		for _, j := range chosenLengths() {
			key, b := s.bytes(i), s.bytes(j)
			if got, want := Sum(key, b), sumByWording(key, b); got != want {
				t.Errorf("%d bytes by a key of %d: %x, want %x", j, i, got, want)
			}
		}
	}
}

// P6.1: a key is replaced by its hash from 65 bytes on, and not before.
func TestSumHashesLongKeysAlone(t *testing.T) {
	s := source(65)
	for length := range 140 {
		key, b := s.bytes(length), s.bytes(20)
		hash := sha.Hash(key)
		same := Sum(key, b) == Sum(hash[:], b)
		if same != (length > 64) {
			t.Errorf("a key of %d bytes counts as its hash: %t", length, same)
		}
	}
}

// P6.1: no bit of the key, nor of the bytes, goes unheard; short keys and those that are hashed.
func TestSumHearsEachBit(t *testing.T) {
	s := source(66)
	for _, length := range []int{32, 64, 100} {
		key, b := s.bytes(length), s.bytes(70)
		seen := map[api.Sum]int{Sum(key, b): -1}
		for which, part := range [][]byte{key, b} {
			for i := range 8 * len(part) {
				part[i/8] ^= 1 << (i % 8)
				sum := Sum(key, b)
				part[i/8] ^= 1 << (i % 8)
				if other, taken := seen[sum]; taken {
					t.Fatalf("a key of %d bytes: bits %d and %d give the same sum", length, other, i)
				}
				seen[sum] = 10000*which + i
			}
		}
	}
}

// P6.1: what ends the key and what begins the bytes makes a difference, and so does which is which.
func TestSumTellsItsPartsApart(t *testing.T) {
	cases := []struct{ key, text string }{
		{"", "abc"}, {"a", "bc"}, {"ab", "c"}, {"abc", ""}, {"c", "ab"}, {"bc", "a"},
		{"", "\x00"}, {"", ""}, {"", "\x00\x00"},
	}
	seen := map[api.Sum]int{}
	for i, c := range cases {
		sum := Sum([]byte(c.key), []byte(c.text))
		if other, taken := seen[sum]; taken {
			t.Errorf("cases %d and %d have the same sum", other, i)
		}
		seen[sum] = i
	}
}

// P6.2: RFC 5869's test cases 1 to 3: from a secret to the bytes of its key.
func TestExtractAndExpandOfTheStandardsSecrets(t *testing.T) {
	cases := []struct {
		salt, secret, info []byte
		key, want          string
	}{
		{
			run(0, 13), bytes.Repeat([]byte{0x0b}, 22), run(0xf0, 10),
			"077709362c2e32df0ddc3f0dc47bba6390b6c73bb50f9c3122ec844ad7c2b3e5",
			"3cb25f25faacd57a90434f64d0362f2a2d2d0a90cf1a5a4c5db02d56ecc4c5bf34007208d5b887185865",
		},
		{
			run(0x60, 80), run(0, 80), run(0xb0, 80),
			"06a6b88c5853361a06104c9ceb35b45cef760014904671014a193f40c15fc244",
			"b11e398dc80327a1c8e7f78c596a49344f012eda2d4efad8a050cc4c19afa97c59045a99cac7827271cb41c65e590e09" +
				"da3275600c2f09b8367793a9aca3db71cc30c58179ec3e87c14c01d5c1f3434f1d87",
		},
		{
			nil, bytes.Repeat([]byte{0x0b}, 22), nil,
			"19ef24a32c717b167f33a91d6f648bdf96596776afdb6377ac434c1c293ccb04",
			"8da4e775a563c18f715f802a063c5a31b8a11f5c5ee1879ec3454e5f3c738d2d9d201395faa4b61a96c8",
		},
	}
	for _, c := range cases {
		key, want := Extract(c.salt, c.secret), bytesOf(t, c.want)
		if key != api.Sum(bytesOf(t, c.key)) {
			t.Errorf("Extract(%x, %x) = %x, want %s", c.salt, c.secret, key, c.key)
		}
		if got := expand(t, key[:], c.info, len(want)); !bytes.Equal(got, want) {
			t.Errorf("Expand(%x, %x, %d) = %x, want %s", key, c.info, len(want), got, c.want)
		}
	}
}

// P6.2: the salt is the key and the secret the bytes; against the library too.
func TestExtractIsASumByTheSalt(t *testing.T) {
	s := source(67)
	for _, i := range chosenLengths() {
		for _, j := range chosenLengths() {
			salt, secret := s.bytes(i), s.bytes(j)
			got := Extract(salt, secret)
			if got != Sum(salt, secret) {
				t.Errorf("a secret of %d bytes by a salt of %d: not their sum", j, i)
			}
			want, err := hkdf.Extract(sha256.New, secret, salt)
			if err != nil || got != api.Sum(want) {
				t.Errorf("a secret of %d bytes by a salt of %d: %x, want %x", j, i, got, want)
			}
		}
	}
}

// P6.2: the edges of n, and numbers far beyond them; beside an error there are no bytes.
func TestExpandOfNumbersOfBytes(t *testing.T) {
	for _, n := range []int{-1, -2, -32, -8160, math.MinInt32, math.MinInt, 8161, 8162, 8191, 8192, 1 << 20, 1 << 40, math.MaxInt} {
		for _, info := range [][]byte{nil, {1}} {
			if got, code := Expand(info, info, n); code != api.ErrArg || got != nil {
				t.Errorf("Expand of %d bytes: %d bytes, error %d, want ErrArg", n, len(got), code)
			}
		}
	}
	for _, n := range []int{0, 1, 8159, 8160} {
		for _, info := range [][]byte{nil, {}, {1}} {
			if got, code := Expand(info, info, n); code != api.OK || len(got) != n {
				t.Errorf("Expand of %d bytes: %d bytes, error %d", n, len(got), code)
			}
		}
	}
}

// P6.2: against the library, each number of bytes up to some sums, by keys and infos of many lengths.
func TestExpandOfEachNumberOfBytes(t *testing.T) {
	s := source(68)
	for n := range 300 {
		key, info := s.bytes(n*13%140), s.bytes(n*7%150)
		if got, want := expand(t, key, info, n), libraryExpand(t, key, info, n); !bytes.Equal(got, want) {
			t.Fatalf("Expand(%x, %x, %d) = %x, want %x", key, info, n, got, want)
		}
	}
}

// P6.2: against the library and the chapter's wording, about whole sums and up to the last one.
func TestExpandFollowsItsWording(t *testing.T) {
	s := source(69)
	for _, n := range chosenCounts() {
		for _, length := range []int{0, 1, 31, 100} {
			key, info := s.bytes(32+length), s.bytes(length)
			got := expand(t, key, info, n)
			if want := expandByWording(key, info, n); !bytes.Equal(got, want) {
				t.Errorf("%d bytes with an info of %d are not as the chapter words them", n, length)
			}
			if want := libraryExpand(t, key, info, n); !bytes.Equal(got, want) {
				t.Errorf("%d bytes with an info of %d are not the library's", n, length)
			}
		}
	}
}

// P6.2: each of the 255 sums is the one of the sum before, the info and its number.
func TestExpandIsAChainOfSums(t *testing.T) {
	s := source(70)
	key, info := s.bytes(32), s.bytes(20)
	all := expand(t, key, info, 8160)
	var last []byte
	for i := range 255 {
		got := all[32*i : 32*(i+1)]
		want := Sum(key, slices.Concat(last, info, []byte{byte(i + 1)}))
		if api.Sum(got) != want {
			t.Fatalf("sum %d is %x, want %x", i+1, got, want)
		}
		last = got
	}
}

// P6.2: the key and the info are told apart, and neither is idle.
func TestExpandHearsItsArguments(t *testing.T) {
	cases := []struct{ key, info string }{
		{"", ""}, {"a", ""}, {"", "a"}, {"a", "b"}, {"b", "a"}, {"ab", ""}, {"", "ab"}, {"", "\x00"}, {"", "\x01"},
	}
	seen := map[string]int{}
	for i, c := range cases {
		b := string(expand(t, []byte(c.key), []byte(c.info), 32))
		if other, taken := seen[b]; taken {
			t.Errorf("cases %d and %d give the same bytes", other, i)
		}
		seen[b] = i
	}
}

// P6.3: equal ones are the same; one changed bit anywhere makes another.
func TestSameOfChangedBits(t *testing.T) {
	s := source(71)
	for _, a := range []api.Sum{{}, api.Sum(s.bytes(32)), api.Sum(bytes.Repeat([]byte{0xff}, 32))} {
		if b := a; !Same(a, b) {
			t.Errorf("%x is not the same as itself", a)
		}
		for i := range 256 {
			b := a
			b[i/8] ^= 1 << (i % 8)
			if Same(a, b) || Same(b, a) {
				t.Errorf("%x and %x are the same", a, b)
			}
		}
	}
}

// P6.3: differences that make up for one another, and the same bytes at other places.
func TestSameOfSeveralChanges(t *testing.T) {
	cases := []struct{ a, b api.Sum }{
		{api.Sum{0: 1, 1: 1}, api.Sum{}},
		{api.Sum{0: 1}, api.Sum{31: 1}},
		{api.Sum{0: 1, 1: 2}, api.Sum{0: 2, 1: 1}},
		{api.Sum{0: 0x80, 31: 0x80}, api.Sum{}},
		{api.Sum{15: 5, 16: 3}, api.Sum{15: 3, 16: 5}},
		{api.Sum(run(0, 32)), api.Sum(run(1, 32))},
		{api.Sum{}, api.Sum(bytes.Repeat([]byte{0xff}, 32))},
		{api.Sum{}, api.Sum(bytes.Repeat([]byte{0x80}, 32))},
	}
	for _, c := range cases {
		if Same(c.a, c.b) || Same(c.b, c.a) {
			t.Errorf("%x and %x are the same", c.a, c.b)
		}
		if !Same(c.a, c.a) || !Same(c.b, c.b) {
			t.Errorf("%x or %x is not the same as itself", c.a, c.b)
		}
	}
}

// P6.3: a sum that is made again is the same; by another key, or of other bytes, it is not.
func TestSameOfSums(t *testing.T) {
	a := Sum([]byte("key"), []byte("text"))
	if !Same(a, Sum([]byte("key"), []byte("text"))) {
		t.Error("made again: not the same")
	}
	if Same(a, Sum([]byte("kex"), []byte("text"))) || Same(a, Sum([]byte("key"), []byte("test"))) {
		t.Error("another key, or other bytes: the same")
	}
}

// P6.4: fewer bytes are the beginning of more.
func TestExpandForFewerIsAPrefix(t *testing.T) {
	s := source(72)
	for _, length := range []int{0, 10, 32, 70} {
		key, info := s.bytes(length), s.bytes(length)
		all := expand(t, key, info, 8160)
		for _, n := range slices.Concat(numbersTo(130), chosenCounts()) {
			if got := expand(t, key, info, n); !bytes.Equal(got, all[:n]) {
				t.Fatalf("a key of %d bytes: %d bytes are not the beginning of 8160", length, n)
			}
		}
	}
}

// P6.4: zero bytes behind a key change nothing up to 64 bytes, and change the sums beyond.
func TestZeroBytesBehindAKey(t *testing.T) {
	s := source(73)
	b := s.bytes(30)
	for length := range 65 {
		key := s.bytes(length)
		want := Sum(key, b)
		for more := 0; length+more <= 64; more++ {
			if got := Sum(append(slices.Clone(key), make([]byte, more)...), b); got != want {
				t.Fatalf("a key of %d bytes with %d zero bytes: %x, want %x", length, more, got, want)
			}
		}
		if Sum(append(slices.Clone(key), make([]byte, 65-length)...), b) == want {
			t.Fatalf("a key of %d bytes, with zero bytes up to 65, gives the same sum", length)
		}
	}
	if Sum(make([]byte, 64), b) != Sum(nil, b) {
		t.Error("64 zero bytes give another sum than no key")
	}
}

// P6.1, P6.2: a call answers the same, whatever was called before it.
func TestCallsDoNotHearOneAnother(t *testing.T) {
	s := source(74)
	key, b := s.bytes(40), s.bytes(50)
	sum, expanded := Sum(key, b), string(expand(t, key, b, 100))
	for range 10 {
		Sum(s.bytes(90), s.bytes(90))
		Extract(s.bytes(10), s.bytes(10))
		expand(t, s.bytes(20), s.bytes(20), 200)
		Expand(key, b, -1)
		if Sum(key, b) != sum || Extract(key, b) != sum || string(expand(t, key, b, 100)) != expanded {
			t.Fatal("a later call with the same arguments answers something else")
		}
	}
}

// roomy is b with spare capacity behind it, and that memory as a whole.
func roomy(s *source, b []byte) (front, whole []byte) {
	whole = append(slices.Clone(b), s.bytes(200)...)
	return whole[:len(b)], whole
}

// P6.1, P6.2: neither the arguments nor the spare capacity behind them are changed, and the spare bytes don't count.
func TestArgumentsAreLeftAlone(t *testing.T) {
	s := source(75)
	for _, length := range chosenLengths() {
		plainKey, plainText := s.bytes(length), s.bytes(200-length)
		sum, expanded := librarySum(plainKey, plainText), libraryExpand(t, plainKey, plainText, 70)
		key, keyWhole := roomy(&s, plainKey)
		text, textWhole := roomy(&s, plainText)
		before := slices.Concat(keyWhole, textWhole)
		if Sum(key, text) != sum || Extract(key, text) != sum || !bytes.Equal(expand(t, key, text, 70), expanded) {
			t.Errorf("a key of %d bytes: the spare ones count", length)
		}
		if !bytes.Equal(slices.Concat(keyWhole, textWhole), before) {
			t.Errorf("a key of %d bytes: what was given is changed", length)
		}
	}
}

// P6.1, P6.2: the same memory may be both arguments.
func TestOneSliceAsBothArguments(t *testing.T) {
	s := source(76)
	for _, length := range chosenLengths() {
		b := s.bytes(length)
		if got, want := Sum(b, b), librarySum(slices.Clone(b), slices.Clone(b)); got != want {
			t.Errorf("%d bytes by themselves: %x, want %x", length, got, want)
		}
		if got, want := expand(t, b, b, 70), libraryExpand(t, slices.Clone(b), slices.Clone(b), 70); !bytes.Equal(got, want) {
			t.Errorf("%d bytes by themselves expand to %x, want %x", length, got, want)
		}
	}
}

// P6.2: a result is new memory; what the caller does with it, to its whole capacity, is not seen in the arguments nor in a later result.
func TestExpandedBytesAreTheCallers(t *testing.T) {
	s := source(77)
	for _, n := range []int{0, 1, 32, 40, 100} {
		key, info := s.bytes(32), s.bytes(32)
		before, want := slices.Concat(key, info), libraryExpand(t, key, info, n)
		for range 2 {
			got := expand(t, key, info, n)
			if !bytes.Equal(got, want) {
				t.Fatalf("%d bytes: %x, want %x", n, got, want)
			}
			whole := got[:cap(got)]
			for i := range whole {
				whole[i] ^= 0xff
			}
		}
		if !bytes.Equal(slices.Concat(key, info), before) {
			t.Errorf("%d bytes: a result shares memory with an argument", n)
		}
	}
}

// P6.2: what was given out stays as it is, whatever is asked later.
func TestExpandedBytesStay(t *testing.T) {
	s := source(78)
	for _, n := range []int{1, 32, 40, 100, 8160} {
		key, info := s.bytes(32), s.bytes(32)
		got := expand(t, key, info, n)
		want := slices.Clone(got)
		for range 3 {
			expand(t, s.bytes(32), s.bytes(32), n)
		}
		if !bytes.Equal(got, want) {
			t.Errorf("%d bytes: a later call changes them", n)
		}
	}
}
