package envelope

import (
	"bytes"
	"fmt"
	"math"
	"reflect"
	"slices"
	"testing"

	"strongroom/api"
	"strongroom/gcm"
	"strongroom/keyring"
)

// named is a key's material that shows which one it is.
func named(name int) api.Key {
	m := api.Key{31: byte(name)}
	for i := range 31 {
		m[i] = byte(name*7 + i)
	}
	return m
}

// full is a keyring with all versions of all keys.
func full(t *testing.T) *keyring.Keys {
	t.Helper()
	k := keyring.New()
	for id := 1; id <= 8; id++ {
		k.Create(named(10 * id))
		for version := 2; version <= 4; version++ {
			if _, e := k.Rotate(id, named(10*id+version-1)); e != api.OK {
				t.Fatalf("Rotate(%d): error %d", id, e)
			}
		}
	}
	return k
}

// fullMaterial is what full gives a version.
func fullMaterial(id, version int) api.Key { return named(10*id + version - 1) }

// one is a keyring with one version of one key.
func one() *keyring.Keys {
	k := keyring.New()
	k.Create(named(1))
	return k
}

// tired is a keyring whose one version was used so often.
func tired(uses int) *keyring.Keys {
	k := one()
	for range uses {
		k.Use(1)
	}
	return k
}

func mustEncrypt(t *testing.T, k *keyring.Keys, id int, text, beside []byte) []byte {
	t.Helper()
	blob, _, e := Encrypt(k, id, text, beside)
	if e != api.OK {
		t.Fatalf("Encrypt(%d, %x, %x): error %d", id, text, beside, e)
	}
	return blob
}

func mustDecrypt(t *testing.T, k *keyring.Keys, blob, beside []byte) []byte {
	t.Helper()
	text, e := Decrypt(k, blob, beside)
	if e != api.OK {
		t.Fatalf("Decrypt(%x, %x): error %d", blob, beside, e)
	}
	return text
}

// refuses expects an error alone of a call, and that it changes nothing.
func refuses(t *testing.T, what string, k *keyring.Keys, c call, want api.Errno) {
	t.Helper()
	before := k.Rings()
	a := c.to(k)
	if a.e != want || a.b != nil || a.n != 0 {
		t.Errorf("%s: %v = %x, want error %d alone", what, c, a, want)
	}
	if !reflect.DeepEqual(k.Rings(), before) {
		t.Errorf("%s: %v leads to %v, from %v", what, c, k.Rings(), before)
	}
}

// refusesBlob expects of both calls that take a blob that they refuse it.
func refusesBlob(t *testing.T, what string, k *keyring.Keys, blob, beside []byte, want api.Errno) {
	t.Helper()
	refuses(t, what, k, call{kind: decrypt, b: blob, beside: beside}, want)
	refuses(t, what, k, call{kind: rewrap, b: blob, beside: beside}, want)
}

// The chapter's examples.
func TestExamples(t *testing.T) {
	k := one()
	blob, version, e := Encrypt(k, 1, []byte("x"), nil)
	if len(blob) != 33 || version != 1 || e != api.OK {
		t.Fatalf("Encrypt(1, x, empty) = %x, %d, %d", blob, version, e)
	}
	if text, e := Decrypt(k, blob, nil); string(text) != "x" || e != api.OK {
		t.Errorf("Decrypt(that, empty) = %q, %d", text, e)
	}
	refusesBlob(t, "with y beside", k, blob, []byte("y"), api.ErrForged)
	refusesBlob(t, "nothing", k, nil, nil, api.ErrBlob)
	refusesBlob(t, "empty", k, []byte{}, []byte{}, api.ErrBlob)
	refuses(t, "no key", k, call{kind: encrypt, id: 2}, api.ErrNoKey)
	refuses(t, "65 bytes", k, call{kind: encrypt, id: 1, b: make([]byte, 65)}, api.ErrLong)
}

// P14.1, P14.2: blobs that another program made, written down.
func TestBlobsWrittenDown(t *testing.T) {
	var counted, filled api.Key
	for i := range counted {
		counted[i], filled[i] = byte(i), 0xff
	}
	cases := []struct {
		m                  api.Key
		uses               int
		text, beside, want string
	}{
		{api.Key{}, 0, "", "", "01010101" + "000000000000000000000000" + "530f8afbc74536b9a963b4f1c4cb738b"},
		{counted, 0, "x", "", "01010101" + "000000000000000000000000" + "76ffcbc0efb60b6bf8cc010a2c5273cc86"},
		{counted, 1, "text", "beside", "01010101" + "000000000000000000000001" + "61b3c78844f77faaa3c81f3f20fe32985b0c0cd8"},
		{filled, 15, "a text of four blocks, which are as many bytes as there may be..", "and as many beside it as may be.", "01010101" + "00000000000000000000000f" +
			"5bf855bb1e2e86adceeec683ed302b13cd0a2c533b7a50c40a6d21c35145da3f0bfdf35ec1875bda1d021be5a962b56f20f6815f37fa0fa4aebeafcaa96e618f" +
			"b92290f613c51d6ae0e36727b5f5676f"},
	}
	for _, c := range cases {
		k := keyring.New()
		k.Create(c.m)
		for range c.uses {
			k.Use(1)
		}
		want := bytesOf(t, c.want)
		if got := mustEncrypt(t, k, 1, []byte(c.text), []byte(c.beside)); !bytes.Equal(got, want) {
			t.Errorf("Encrypt of %q beside %q = %x, want %x", c.text, c.beside, got, want)
		}
		if got := mustDecrypt(t, k, want, []byte(c.beside)); string(got) != c.text {
			t.Errorf("Decrypt of %x = %q, want %q", want, got, c.text)
		}
	}
}

// numbersAbout are numbers at which their encodings grow, up to the greatest.
func numbersAbout() []int {
	l := []int{1, 2, 3, 4, 8, 9, 300, math.MaxInt - 1, math.MaxInt}
	for shift := 7; shift < 63; shift++ {
		l = append(l, 1<<shift-1, 1<<shift, 1<<shift+1)
	}
	return l
}

// P14.1: blobs as bytes, written down.
func TestBlobOfNumbers(t *testing.T) {
	n := api.Nonce{0xa0, 1, 2, 3, 4, 5, 6, 7, 8, 9, 10, 0xab}
	cases := []struct {
		id, version int
		want        string
	}{
		{1, 1, "01010101"}, {300, 2, "02012c0102"}, {2, 300, "010202012c"}, {255, 256, "01ff020100"}, {256, 255, "02010001ff"},
		{math.MaxInt, 1, "087fffffffffffffff0101"}, {1, math.MaxInt, "0101087fffffffffffffff"},
	}
	for _, c := range cases {
		for _, sealed := range []string{"000102030405060708090a0b0c0d0e0f", "ffeeddccbbaa99887766554433221100aa"} {
			want := bytesOf(t, c.want+"a00102030405060708090aab"+sealed)
			if got := Blob(c.id, c.version, n, bytesOf(t, sealed)); !bytes.Equal(got, want) {
				t.Errorf("Blob(%d, %d, ..) = %x, want %x", c.id, c.version, got, want)
			}
			if got := read(want); !got.same(parts{c.id, c.version, n, bytesOf(t, sealed), api.OK}) {
				t.Errorf("Read(%x) = %x", want, got)
			}
		}
	}
}

// P14.1: all pairs of numbers about the edges, against the chapter's wording, and back.
func TestBlobAndRead(t *testing.T) {
	s := source(140)
	for i, id := range numbersAbout() {
		for j, version := range numbersAbout() {
			n, sealed := api.Nonce(s.bytes(12)), s.bytes(16+(i+j)%65)
			blob := Blob(id, version, n, sealed)
			if want := blobByWording(id, version, n, sealed); !bytes.Equal(blob, want) {
				t.Fatalf("Blob(%d, %d, %x, %x) = %x, want %x", id, version, n, sealed, blob, want)
			}
			if got := read(blob); !got.same(parts{id, version, n, sealed, api.OK}) {
				t.Fatalf("Read(%x) = %x", blob, got)
			}
		}
	}
}

// P14.1: what is sealed has from 16 to 80 bytes: Blob takes other lengths, and Read refuses them.
func TestLengthsOfWhatIsSealed(t *testing.T) {
	s := source(141)
	n := api.Nonce(s.bytes(12))
	lengths := []int{255, 256, 272, 336, 1 << 12, 1<<16 + 16, 1<<16 + 80}
	for length := range 200 {
		lengths = append(lengths, length)
	}
	for _, length := range lengths {
		for _, id := range []int{1, 255, 256, math.MaxInt} {
			sealed := s.bytes(length)
			blob := Blob(id, 2, n, sealed)
			if !bytes.Equal(blob, blobByWording(id, 2, n, sealed)) {
				t.Fatalf("Blob(%d, 2, .., %d bytes) = %x", id, length, blob)
			}
			want := parts{id, 2, n, sealed, api.OK}
			if length < 16 || length > 80 {
				want = parts{e: api.ErrBlob}
			}
			if got := read(blob); !got.same(want) || got.e != api.OK && got.sealed != nil {
				t.Fatalf("Read of a blob with %d bytes sealed = %x, want %x", length, got, want)
			}
		}
	}
}

// mustBeNone expects that Read takes bytes for no blob.
func mustBeNone(t *testing.T, what string, b []byte) {
	t.Helper()
	if got := read(b); !got.same(parts{e: api.ErrBlob}) || got.sealed != nil {
		t.Errorf("%s: Read(%x) = %x, want ErrBlob alone", what, b, got)
	}
}

// P14.1: wherever a blob ends too early, it is none.
func TestBeginningsOfBlobs(t *testing.T) {
	s := source(142)
	mustBeNone(t, "nil", nil)
	for _, id := range []int{1, 256, math.MaxInt} {
		for _, version := range []int{1, 256, math.MaxInt} {
			blob := Blob(id, version, api.Nonce(s.bytes(12)), s.bytes(16))
			for length := range blob {
				mustBeNone(t, "a beginning", blob[:length:length])
				mustBeNone(t, "a beginning with the rest behind it", blob[:length])
			}
			if got := read(blob); got.e != api.OK {
				t.Errorf("Read(%x) = %x", blob, got)
			}
		}
	}
}

// noNumbers are bytes that are no number from 1 on, whatever follows.
func noNumbers() []string {
	l := []string{
		"00", "0100", "020000", "020001", "0200ff", "03000000", "03000100", "0800000000000000ff", "0800ffffffffffffff",
		"088000000000000000", "088000000000000001", "08ffffffffffffffff", "0880ffffffffffffff",
	}
	for first := 9; first < 256; first++ {
		l = append(l, fmt.Sprintf("%02x01", first))
	}
	return l
}

// P14.1: what is no number, or less than 1, is refused in both places, whatever the other number is.
func TestReadOfWrongNumbers(t *testing.T) {
	s := source(143)
	for _, none := range noNumbers() {
		for _, length := range []int{28, 60, 92} {
			rest := s.bytes(length)
			for _, good := range []int{1, 256, math.MaxInt} {
				mustBeNone(t, "first", slices.Concat(bytesOf(t, none), numberByWording(good), rest))
				mustBeNone(t, "second", slices.Concat(numberByWording(good), bytesOf(t, none), rest))
			}
			mustBeNone(t, "both", slices.Concat(bytesOf(t, none), bytesOf(t, none), rest))
		}
	}
	for _, b := range []string{"02", "0201", "08", "087fffffffffffff", "0102", "010202", "01020201", "010208", "0102087fffffffffffff"} {
		mustBeNone(t, "a number that ends too early", bytesOf(t, b))
	}
}

// P14.1: what Blob answers for numbers that are none, Read refuses.
func TestBlobOfWrongNumbers(t *testing.T) {
	for _, wrong := range []int{0, -1, -2, -255, -256, math.MinInt32, math.MinInt + 1, math.MinInt} {
		for _, other := range []int{1, 0, -1, math.MaxInt, math.MinInt} {
			for _, length := range []int{0, 15, 16, 18, 20, 48, 80, 81, 82, 84} {
				for _, n := range []api.Nonce{{1}, {1, 1, 1, 1}} { // the second one looks like the numbers that are missing
					mustBeNone(t, "a wrong id", Blob(wrong, other, n, make([]byte, length)))
					mustBeNone(t, "a wrong version", Blob(other, wrong, n, make([]byte, length)))
				}
			}
		}
	}
}

// P14.1: any bytes, most of them about those of a blob, against the chapter's wording.
func TestReadOfAnyBytes(t *testing.T) {
	s := source(144)
	good := 0
	for range 200000 {
		b := s.bytes(s.below(120))
		for i := 0; i < len(b) && i < 12; i++ {
			if s.below(2) == 0 {
				b[i] = byte(s.below(4))
			}
		}
		got, want := read(b), readByWording(b)
		if !got.same(want) || got.e != api.OK && got.sealed != nil {
			t.Fatalf("Read(%x) = %x, want %x", b, got, want)
		}
		if got.e == api.OK {
			good++
			if again := Blob(got.id, got.version, got.n, got.sealed); !bytes.Equal(again, b) {
				t.Fatalf("Read(%x) = %x, of which Blob is %x", b, got, again)
			}
		}
	}
	if good < 1000 {
		t.Errorf("only %d blobs were among them", good)
	}
}

// P14.2: the nonces of counts: four zero bytes, and the count in eight.
func TestNonces(t *testing.T) {
	for bit := range 63 {
		var want api.Nonce
		want[11-bit/8] = 1 << (bit % 8)
		if got := nonceOf(1 << bit); got != want {
			t.Errorf("the nonce of 2^%d is %x, want %x", bit, got, want)
		}
	}
	for _, count := range append(numbersAbout(), 0, 0x0102030405060708) {
		if got := nonceOf(count); got != nonceByWording(count) {
			t.Errorf("the nonce of %d is %x, want %x", count, got, nonceByWording(count))
		}
	}
	if got, want := nonceOf(0x0102030405060708), (api.Nonce{0, 0, 0, 0, 1, 2, 3, 4, 5, 6, 7, 8}); got != want {
		t.Errorf("the nonce of 0x0102030405060708 is %x, want %x", got, want)
	}
}

// P14.2, P14.3: texts and bytes beside them of each length that may be, against the wording, and back.
func TestEachLength(t *testing.T) {
	t.Parallel()
	s := source(145)
	for length := range 65 {
		p := pairOf(full(t))
		for _, beside := range []int{0, length % 33, 32} {
			c := call{kind: encrypt, id: 1 + length%8, b: s.bytes(length), beside: s.bytes(beside)}
			blob := p.do(t, c)
			if blob.e != api.OK || blob.n != 4 || len(blob.b) != 4+12+length+16 {
				t.Fatalf("%v = %x", c, blob)
			}
			if got := p.do(t, call{kind: decrypt, b: blob.b, beside: c.beside}); got.e != api.OK || !bytes.Equal(got.b, c.b) {
				t.Fatalf("%x with %x beside is decrypted to %x, want %x", blob.b, c.beside, got, c.b)
			}
			if got := p.do(t, call{kind: rewrap, b: blob.b, beside: c.beside}); got.e != api.OK || got.n != 4 {
				t.Fatalf("%x with %x beside is rewrapped to %x", blob.b, c.beside, got)
			}
		}
	}
}

// P14.2: each version of each key, by package gcm, as the chapter words it.
func TestEncryptByEachVersion(t *testing.T) {
	text, beside := []byte("text"), []byte("beside")
	k := keyring.New()
	for id := 1; id <= 8; id++ {
		k.Create(fullMaterial(id, 1))
		for version := 1; version <= 4; version++ {
			if version > 1 {
				k.Rotate(id, fullMaterial(id, version))
			}
			for count := range 2 {
				n := api.Nonce{11: byte(count)}
				blob, v, e := Encrypt(k, id, text, beside)
				want := Blob(id, version, n, gcm.Seal(fullMaterial(id, version), n, beside, text))
				if e != api.OK || v != version || !bytes.Equal(blob, want) {
					t.Errorf("Encrypt(%d, ..) by version %d = %x, %d, %d, want %x", id, version, blob, v, e, want)
				}
			}
		}
	}
}

// P14.2, P14.4: a version encrypts sixteen times, each time with a nonce of its own; a new one begins anew.
func TestUses(t *testing.T) {
	k := one()
	text := []byte("the same")
	for version := 1; version <= 4; version++ {
		for count := range 16 {
			blob := mustEncrypt(t, k, 1, text, nil)
			want := parts{1, version, api.Nonce{11: byte(count)}, sealByWording(named(version), api.Nonce{11: byte(count)}, nil, text), api.OK}
			if got := read(blob); !got.same(want) {
				t.Fatalf("the use %d of version %d has the parts %x, want %x", count, version, got, want)
			}
		}
		refuses(t, "used up", k, call{kind: encrypt, id: 1, b: text}, api.ErrUsed)
		k.Rotate(1, named(version+1))
	}
	refuses(t, "used up, and no version more", k, call{kind: encrypt, id: 1, b: text}, api.ErrUsed)
	for i, v := range k.Rings()[0].L {
		if v.Uses != 16 {
			t.Errorf("version %d was used %d times", i+1, v.Uses)
		}
	}
}

// longBytes are lengths from the limit on.
func longBytes(limit int) []int {
	return []int{limit + 1, limit + 2, 2 * limit, 255, 256, 256 + limit, 257 + limit, 1 << 16, 1<<16 + 1}
}

// P14.2: texts and bytes beside them that are too long, whatever the other one is; no use is spent.
func TestEncryptOfTooMuch(t *testing.T) {
	k := one()
	for _, length := range longBytes(64) {
		for _, beside := range []int{0, 1, 32, 33, 64} {
			refuses(t, "a long text", k, call{kind: encrypt, id: 1, b: make([]byte, length), beside: make([]byte, beside)}, api.ErrLong)
		}
	}
	for _, beside := range longBytes(32) {
		for _, length := range []int{0, 1, 32, 64, 65} {
			refuses(t, "long bytes beside", k, call{kind: encrypt, id: 1, b: make([]byte, length), beside: make([]byte, beside)}, api.ErrLong)
		}
	}
	if got := k.Rings()[0].L[0].Uses; got != 0 {
		t.Errorf("%d uses are spent", got)
	}
	if blob, version, e := Encrypt(k, 1, make([]byte, 64), make([]byte, 32)); e != api.OK || version != 1 || len(blob) != 96 {
		t.Errorf("the longest text: %x, %d, %d", blob, version, e)
	}
}

// noKeys are numbers of no key, or of no version, if there are count.
func noKeys(count int) []int {
	return []int{0, -1, -2, -count, math.MinInt, math.MinInt + 1, math.MinInt32, count + 1, count + 2, 255, 256, 256 + 1, 1 << 32, 1<<32 + 1, math.MaxInt - 1, math.MaxInt}
}

// P14.2: the errors of keyring.Use, in their order, behind ErrLong (rule R3).
func TestErrorsOfEncrypt(t *testing.T) {
	long := call{kind: encrypt, id: 1, b: make([]byte, 65)}
	longBeside := call{kind: encrypt, id: 1, beside: make([]byte, 33)}
	for name, c := range map[string]struct {
		k    *keyring.Keys
		want api.Errno
	}{
		"no key":             {keyring.New(), api.ErrNoKey},
		"off":                {changed(one(), call{kind: switchOff, id: 1}), api.ErrOff},
		"gone":               {changed(one(), call{kind: destroy, id: 1, version: 1}), api.ErrGone},
		"used":               {tired(16), api.ErrUsed},
		"used and off":       {changed(tired(16), call{kind: switchOff, id: 1}), api.ErrOff},
		"used and gone":      {changed(tired(16), call{kind: destroy, id: 1, version: 1}), api.ErrGone},
		"used, gone and off": {changed(tired(16), call{kind: destroy, id: 1, version: 1}, call{kind: switchOff, id: 1}), api.ErrOff},
		"the last one gone":  {changed(one(), call{kind: rotate, id: 1}, call{kind: destroy, id: 1, version: 2}), api.ErrGone},
	} {
		refuses(t, name, c.k, call{kind: encrypt, id: 1, b: []byte("text")}, c.want)
		refuses(t, name+", a long text", c.k, long, api.ErrLong)
		refuses(t, name+", long bytes beside", c.k, longBeside, api.ErrLong)
	}
	for _, k := range []*keyring.Keys{one(), full(t)} {
		for _, id := range noKeys(len(k.Rings())) {
			refuses(t, "no key", k, call{kind: encrypt, id: id}, api.ErrNoKey)
			refuses(t, "no key, a long text", k, call{kind: encrypt, id: id, b: make([]byte, 65)}, api.ErrLong)
		}
	}
}

// changed is a keyring after some calls.
func changed(k *keyring.Keys, l ...call) *keyring.Keys {
	for _, c := range l {
		c.toKeyring(k)
	}
	return k
}

// P14.2: an older version that is destroyed or used up is no hindrance.
func TestEncryptBesideOldVersions(t *testing.T) {
	for _, k := range []*keyring.Keys{tired(16), changed(one(), call{kind: destroy, id: 1, version: 1})} {
		k.Rotate(1, named(2))
		blob, version, e := Encrypt(k, 1, []byte("text"), nil)
		if e != api.OK || version != 2 || !bytes.Equal(blob, blobByWording(1, 2, api.Nonce{}, sealByWording(named(2), api.Nonce{}, nil, []byte("text")))) {
			t.Errorf("Encrypt(1, text) = %x, %d, %d", blob, version, e)
		}
	}
}

// P14.3: blobs with any nonce and any length, of each version of each key, are decrypted by its material.
func TestDecryptByEachVersion(t *testing.T) {
	t.Parallel()
	s := source(146)
	k := full(t)
	before := k.Rings()
	for id := 1; id <= 8; id++ {
		for version := 1; version <= 4; version++ {
			for _, length := range []int{0, 1, 16, 63, 64} {
				n, text, beside := api.Nonce(s.bytes(12)), s.bytes(length), s.bytes(length%33)
				blob := blobByWording(id, version, n, sealByWording(fullMaterial(id, version), n, beside, text))
				if got := mustDecrypt(t, k, blob, beside); !bytes.Equal(got, text) {
					t.Fatalf("Decrypt(%x, %x) = %x, want %x", blob, beside, got, text)
				}
			}
		}
	}
	if !reflect.DeepEqual(k.Rings(), before) {
		t.Errorf("Decrypt leads to %v", k.Rings())
	}
}

// P14.3: the errors in their order: of the bytes beside, of the blob, of the key, of the seal (rule R3).
func TestErrorsOfDecryptAndRewrap(t *testing.T) {
	good := blobByWording(1, 1, api.Nonce{3}, sealByWording(named(1), api.Nonce{3}, nil, []byte("text")))
	forged := slices.Clone(good)
	forged[len(forged)-1] ^= 1
	long := make([]byte, 33)
	for name, c := range map[string]struct {
		k    *keyring.Keys
		want api.Errno
	}{
		"no key":       {keyring.New(), api.ErrNoKey},
		"off":          {changed(one(), call{kind: switchOff, id: 1}), api.ErrOff},
		"gone":         {changed(one(), call{kind: destroy, id: 1, version: 1}), api.ErrGone},
		"off and gone": {changed(one(), call{kind: destroy, id: 1, version: 1}, call{kind: switchOff, id: 1}), api.ErrOff},
		"an old one is gone": {changed(one(), call{kind: rotate, id: 1, m: named(2)}, call{kind: destroy, id: 1, version: 1}),
			api.ErrGone},
		"another key's material": {changed(keyring.New(), call{kind: create, m: named(2)}), api.ErrForged},
		"used up":                {tired(16), api.OK},
	} {
		if c.want != api.OK {
			refusesBlob(t, name, c.k, good, nil, c.want)
		}
		want := c.want
		if want == api.OK {
			want = api.ErrForged
		}
		refusesBlob(t, name+", forged", c.k, forged, nil, want)
		refusesBlob(t, name+", other bytes beside", c.k, good, []byte{0}, want)
		for _, blob := range [][]byte{nil, {0, 1}, good[:31], append(slices.Clone(good), make([]byte, 61)...)} {
			refusesBlob(t, name+", no blob", c.k, blob, nil, api.ErrBlob)
			refusesBlob(t, name+", no blob and long bytes beside", c.k, blob, long, api.ErrLong)
		}
		refusesBlob(t, name+", long bytes beside", c.k, good, long, api.ErrLong)
		refusesBlob(t, name+", forged and long bytes beside", c.k, forged, long, api.ErrLong)
	}
	for _, length := range longBytes(32) {
		refusesBlob(t, "long bytes beside", one(), good, make([]byte, length), api.ErrLong)
	}
}

// P14.3: numbers of no key and of no version.
func TestDecryptWithoutKey(t *testing.T) {
	k := full(t)
	for _, number := range noKeys(8) {
		if number > 0 {
			refusesBlob(t, "no key", k, blobByWording(number, 1, api.Nonce{}, make([]byte, 16)), nil, api.ErrNoKey)
		}
	}
	for _, number := range noKeys(4) {
		if number > 0 {
			refusesBlob(t, "no version", k, blobByWording(8, number, api.Nonce{}, make([]byte, 16)), nil, api.ErrNoKey)
			refusesBlob(t, "no version", k, blobByWording(1, number, api.Nonce{}, make([]byte, 80)), nil, api.ErrNoKey)
		}
	}
	k.Switch(3, false)
	refusesBlob(t, "no version of a disabled key", k, blobByWording(3, 5, api.Nonce{}, make([]byte, 16)), nil, api.ErrNoKey)
}

// P14.3: no bit of a blob may be changed, no byte taken away or added, and nothing beside it.
func TestChangedBlobs(t *testing.T) {
	t.Parallel()
	beside := []byte("beside")
	k := full(t)
	blob := mustEncrypt(t, k, 3, []byte("text"), beside)
	p := pairOf(k)
	tryBoth := func(blob, beside []byte) {
		t.Helper()
		for _, kind := range []int{decrypt, rewrap} {
			if a := p.do(t, call{kind: kind, b: blob, beside: beside}); a.e == api.OK {
				t.Fatalf("%x with %x beside is taken for %x", blob, beside, a.b)
			}
		}
	}
	for bit := range 8 * len(blob) {
		other := slices.Clone(blob)
		other[bit/8] ^= 1 << (bit % 8)
		tryBoth(other, beside)
	}
	for at := range blob {
		tryBoth(slices.Delete(slices.Clone(blob), at, at+1), beside)
		tryBoth(slices.Insert(slices.Clone(blob), at, 0), beside)
	}
	tryBoth(append(slices.Clone(blob), 0), beside)
	for bit := range 8 * len(beside) {
		other := slices.Clone(beside)
		other[bit/8] ^= 1 << (bit % 8)
		tryBoth(blob, other)
	}
	for length := range beside {
		tryBoth(blob, beside[:length])
	}
	tryBoth(blob, []byte("beside "))
}

// P14.3: a blob of one version is no blob of another one, nor of another key.
func TestBlobsOfOthers(t *testing.T) {
	k := full(t)
	n := api.Nonce{7}
	sealed := sealByWording(fullMaterial(3, 2), n, nil, []byte("text"))
	for id := 1; id <= 8; id++ {
		for version := 1; version <= 4; version++ {
			blob := Blob(id, version, n, sealed)
			if id == 3 && version == 2 {
				if got := mustDecrypt(t, k, blob, nil); string(got) != "text" {
					t.Errorf("Decrypt(%x) = %x", blob, got)
				}
				continue
			}
			refusesBlob(t, "of another version", k, blob, nil, api.ErrForged)
		}
	}
}

// P14.3: Rewrap encrypts by the last version, with the key of the blob and the same bytes beside; that is a use, and the old blob stays good.
func TestRewrap(t *testing.T) {
	text, beside := []byte("text"), []byte("beside")
	k := one()
	k.Create(named(9))
	old := mustEncrypt(t, k, 1, text, beside)
	for version := 1; version <= 4; version++ {
		if version > 1 {
			k.Rotate(1, named(version))
		}
		for range 2 {
			count := k.Rings()[0].L[version-1].Uses
			n := nonceByWording(count)
			blob, v, e := Rewrap(k, old, beside)
			if want := blobByWording(1, version, n, sealByWording(named(version), n, beside, text)); e != api.OK || v != version || !bytes.Equal(blob, want) {
				t.Fatalf("Rewrap by version %d = %x, %d, %d, want %x", version, blob, v, e, want)
			}
			if got := k.Rings()[0].L[version-1].Uses; got != count+1 {
				t.Errorf("Rewrap makes %d uses of %d", got, count)
			}
			for _, b := range [][]byte{old, blob} {
				if got := mustDecrypt(t, k, b, beside); !bytes.Equal(got, text) {
					t.Errorf("Decrypt(%x) = %q", b, got)
				}
				refusesBlob(t, "nothing beside", k, b, nil, api.ErrForged)
			}
		}
	}
	if got := k.Rings()[1].L[0].Uses; got != 0 {
		t.Errorf("the other key was used %d times", got)
	}
}

// P14.3: what Encrypt refuses, though Decrypt doesn't.
func TestRewrapWithoutUse(t *testing.T) {
	text := []byte("text")
	for name, c := range map[string]struct {
		l    []call
		want api.Errno
	}{
		"used up":           {nil, api.ErrUsed},
		"the last one gone": {[]call{{kind: rotate, id: 1, m: named(2)}, {kind: destroy, id: 1, version: 2}}, api.ErrGone},
	} {
		k := tired(15)
		blob := mustEncrypt(t, k, 1, text, nil)
		changed(k, c.l...)
		if got := mustDecrypt(t, k, blob, nil); !bytes.Equal(got, text) {
			t.Errorf("%s: Decrypt = %q", name, got)
		}
		refuses(t, name, k, call{kind: rewrap, b: blob}, c.want)
		changed(k, call{kind: rotate, id: 1, m: named(3)})
		if _, _, e := Rewrap(k, blob, nil); e != api.OK {
			t.Errorf("%s: Rewrap by a new version: error %d", name, e)
		}
	}
}

// P14.3: what is refused before the text is known is refused whether or not the key can still be used, and spends no use.
func TestRewrapOfForgedBlobs(t *testing.T) {
	for _, uses := range []int{0, 15, 16} {
		k := tired(uses)
		refuses(t, "forged", k, call{kind: rewrap, b: Blob(1, 1, api.Nonce{}, make([]byte, 20))}, api.ErrForged)
		if got := k.Rings()[0].L[0].Uses; got != uses {
			t.Errorf("a forged blob makes %d uses of %d", got, uses)
		}
	}
}

// blobOf is a blob of a version, as the wording has it.
func blobOf(id, version int, m api.Key, text string) []byte {
	n := api.Nonce{9, 9}
	return blobByWording(id, version, n, sealByWording(m, n, nil, []byte(text)))
}

// callsAbout are calls that change what the others answer.
func callsAbout() []call {
	first, second, other := blobOf(1, 1, named(1), "first"), blobOf(1, 2, named(2), "second"), blobOf(2, 1, named(5), "other")
	return []call{
		{kind: encrypt, id: 1, b: []byte("text")}, {kind: encrypt, id: 2}, {kind: encrypt, id: 1, b: make([]byte, 65)},
		{kind: decrypt, b: first}, {kind: decrypt, b: second}, {kind: decrypt, b: other}, {kind: decrypt, b: first, beside: []byte{1}},
		{kind: rewrap, b: first}, {kind: rewrap, b: second}, {kind: rewrap, b: second[:31]},
		{kind: create, m: named(5)}, {kind: rotate, id: 1, m: named(2)},
		{kind: switchOff, id: 1}, {kind: switchOn, id: 1}, {kind: destroy, id: 1, version: 1}, {kind: destroy, id: 1, version: 2},
	}
}

// P14.2, P14.3: all sequences of three calls, from keyrings about the limits, against the chapter's wording.
func TestShortSequences(t *testing.T) {
	starts := map[string]*keyring.Keys{
		"new":     one(),
		"used":    tired(15),
		"rotated": changed(tired(16), call{kind: rotate, id: 1, m: named(2)}, call{kind: create, m: named(5)}),
	}
	for name, k := range starts {
		t.Run(name, func(t *testing.T) {
			t.Parallel()
			follow(t, pairOf(k), 3)
		})
	}
}

func follow(t *testing.T, p pair, depth int) {
	for _, c := range callsAbout() {
		next := p.clone()
		next.do(t, c)
		if depth > 1 {
			follow(t, next, depth-1)
		}
	}
}

// walk goes a way of calls, and knows the blobs that came of them.
type walk struct {
	s     source
	p     pair
	blobs []made
}

// made is a blob, what it was made of, and the bytes beside it.
type made struct{ blob, text, beside []byte }

// pick is one of the blobs, mostly one of the last.
func (w *walk) pick() made {
	if len(w.blobs) == 0 || w.s.below(20) == 0 {
		return made{blob: w.s.bytes(w.s.below(100))}
	}
	if w.s.below(2) == 0 {
		return w.blobs[max(0, len(w.blobs)-1-w.s.below(6))]
	}
	return w.blobs[w.s.below(len(w.blobs))]
}

// length is one of up to most bytes, or a little more.
func (w *walk) length(most int) int {
	switch w.s.below(12) {
	case 0:
		return most
	case 1:
		return most + 1
	}
	return w.s.below(most / 2)
}

// encryptCall encrypts anything with a key that may be there.
func (w *walk) encryptCall() call {
	return call{kind: encrypt, id: w.s.below(7), b: w.s.bytes(w.length(64)), beside: w.s.bytes(w.length(32))}
}

// blobCall is a call for one of the blobs, which now and then is spoilt.
func (w *walk) blobCall(kind int) (call, made) {
	x := w.pick()
	c := call{kind: kind, b: slices.Clone(x.blob), beside: slices.Clone(x.beside)}
	if w.s.below(8) == 0 && len(c.b) > 0 {
		c.b[w.s.below(len(c.b))] ^= 1 << w.s.below(8)
	}
	if w.s.below(8) == 0 {
		c.beside = w.s.bytes(w.length(32))
	}
	return c, x
}

// keyCall changes the keyring.
func (w *walk) keyCall() call {
	c := call{kind: create + w.s.below(kinds-create), id: w.s.below(7), version: w.s.below(5), m: api.Key(w.s.bytes(32))}
	if c.kind == switchOff && w.s.below(2) == 0 || c.kind == destroy && w.s.below(3) > 0 {
		c.kind = switchOn
	}
	return c
}

// step does one call in both ways, and keeps the blob that comes of it.
func (w *walk) step(t *testing.T) {
	t.Helper()
	var c call
	var x made
	switch w.s.below(8) {
	case 0, 1:
		c = w.encryptCall()
		x.text = c.b
	case 2, 3:
		c, x = w.blobCall(decrypt)
	case 4, 5:
		c, x = w.blobCall(rewrap)
	default:
		c = w.keyCall()
	}
	got := w.p.do(t, c)
	if (c.kind == encrypt || c.kind == rewrap) && got.e == api.OK {
		w.blobs = append(w.blobs, made{got.b, x.text, c.beside})
	}
	if c.kind == decrypt && got.e == api.OK && !bytes.Equal(got.b, x.text) {
		t.Fatalf("%v = %x, which was made of %x", c, got.b, x.text)
	}
}

// P14.2 to P14.4: long ways against the chapter's wording; no version is used twice with a nonce, and each blob is decrypted to its text as long as its version exists and its key is enabled.
func TestLongWays(t *testing.T) {
	for seed := range 16 {
		t.Run(fmt.Sprint(seed), func(t *testing.T) {
			t.Parallel()
			w := walk{s: source(1400 + seed), p: pairOf(one())}
			for range 400 {
				w.step(t)
			}
			w.lookAtNonces(t)
			w.lookAtTexts(t)
		})
	}
}

// lookAtNonces expects that no two blobs have the same version and nonce.
func (w *walk) lookAtNonces(t *testing.T) {
	t.Helper()
	type use struct {
		id, version int
		n           api.Nonce
	}
	seen := map[use]bool{}
	for _, x := range w.blobs {
		p := read(x.blob)
		u := use{p.id, p.version, p.n}
		if p.e != api.OK || seen[u] {
			t.Fatalf("the blob %x has the parts %x, and its nonce was there before: %v", x.blob, p, seen[u])
		}
		seen[u] = true
	}
	if len(seen) < 20 {
		t.Errorf("the way had %d blobs alone", len(seen))
	}
}

// lookAtTexts expects of each blob its text, if its version exists and its key is enabled.
func (w *walk) lookAtTexts(t *testing.T) {
	t.Helper()
	rings := w.p.k.Rings()
	for _, x := range w.blobs {
		p := read(x.blob)
		want := api.OK
		switch r := rings[p.id-1]; {
		case r.Off:
			want = api.ErrOff
		case r.L[p.version-1].Gone:
			want = api.ErrGone
		}
		text, e := Decrypt(w.p.k, x.blob, x.beside)
		if e != want || want == api.OK && !bytes.Equal(text, x.text) {
			t.Fatalf("Decrypt(%x, %x) = %x, %d, want %x, %d", x.blob, x.beside, text, e, x.text, want)
		}
	}
}

// P14.4: however often the key is rotated, switched off and on, and its other versions destroyed, the text comes back, and that of the rewrapped blob.
func TestTextsStay(t *testing.T) {
	text, beside := []byte("the text"), []byte("and beside it")
	for kept := 1; kept <= 4; kept++ {
		k := one()
		var blob []byte
		for version := 1; version <= 4; version++ {
			if version > 1 {
				k.Rotate(1, named(version))
			}
			if version == kept {
				blob = mustEncrypt(t, k, 1, text, beside)
			}
		}
		again, _, e := Rewrap(k, blob, beside)
		if e != api.OK {
			t.Fatalf("Rewrap: error %d", e)
		}
		for version := 1; version <= 4; version++ {
			if version != kept && version != 4 {
				k.Destroy(1, version)
			}
		}
		k.Switch(1, false)
		refusesBlob(t, "disabled", k, blob, beside, api.ErrOff)
		k.Switch(1, true)
		for _, b := range [][]byte{blob, again} {
			if got := mustDecrypt(t, k, b, beside); !bytes.Equal(got, text) {
				t.Errorf("Decrypt(%x) = %q", b, got)
			}
		}
		k.Destroy(1, kept)
		refusesBlob(t, "destroyed", k, blob, beside, api.ErrGone)
		if kept < 4 {
			if got := mustDecrypt(t, k, again, beside); !bytes.Equal(got, text) {
				t.Errorf("Decrypt(%x) of what was rewrapped = %q", again, got)
			}
		}
	}
}

// P14.4: a keyring of what Rings tell goes on with the next nonce, and decrypts what was encrypted before.
func TestKeyringsOfRings(t *testing.T) {
	k := one()
	seen := map[api.Nonce]bool{}
	for range 16 {
		blob := mustEncrypt(t, k, 1, []byte("text"), nil)
		n := read(blob).n
		if seen[n] {
			t.Errorf("the nonce %x is used twice", n)
		}
		seen[n] = true
		again, e := keyring.Of(k.Rings())
		if e != api.OK {
			t.Fatalf("Of(%v): error %d", k.Rings(), e)
		}
		k = again
		if got := mustDecrypt(t, k, blob, nil); string(got) != "text" {
			t.Errorf("Decrypt(%x) = %q", blob, got)
		}
	}
}

// roomy is b with spare capacity behind it, and that memory as a whole.
func roomy(s *source, b []byte) (front, whole []byte) {
	whole = append(slices.Clone(b), s.bytes(100)...)
	return whole[:len(b)], whole
}

// P14.1 to P14.3: neither what is given nor the spare capacity behind it is changed (rule R7).
func TestArgumentsAreLeftAlone(t *testing.T) {
	s := source(147)
	for _, length := range []int{0, 1, 16, 17, 63, 64} {
		k := full(t)
		plain, next := s.bytes(length), s.bytes(32)
		n := api.Nonce(s.bytes(12))
		want := blobByWording(2, 3, n, sealByWording(fullMaterial(2, 3), n, next, plain))
		text, wholeText := roomy(&s, plain)
		beside, wholeBeside := roomy(&s, next)
		blob, wholeBlob := roomy(&s, want)
		sealed, wholeSealed := roomy(&s, want[16:])
		before := slices.Concat(wholeText, wholeBeside, wholeBlob, wholeSealed)
		look := func(what string, ok bool) {
			t.Helper()
			if !ok || !bytes.Equal(slices.Concat(wholeText, wholeBeside, wholeBlob, wholeSealed), before) {
				t.Errorf("%s of %d bytes is wrong, or changes what it was given", what, length)
			}
		}
		look("Blob", bytes.Equal(Blob(2, 3, n, sealed), want))
		look("Read", read(blob).same(parts{2, 3, n, want[16:], api.OK}))
		made := mustEncrypt(t, k, 2, text, beside)
		look("Encrypt", bytes.Equal(made, blobByWording(2, 4, api.Nonce{}, sealByWording(fullMaterial(2, 4), api.Nonce{}, next, plain))))
		look("Decrypt", bytes.Equal(mustDecrypt(t, k, blob, beside), plain))
		_, version, e := Rewrap(k, blob, beside)
		look("Rewrap", version == 4 && e == api.OK)
	}
}

func spoil(b []byte) {
	whole := b[:cap(b)]
	for i := range whole {
		whole[i] ^= 0xff
	}
}

// P14.1 to P14.3: results are new memory; what the caller does with them, to their whole capacity, shows nowhere else (rule R7).
func TestResultsAreTheCallers(t *testing.T) {
	s := source(148)
	for _, length := range []int{0, 1, 16, 64} {
		k := full(t)
		plain, beside := s.bytes(length), s.bytes(5)
		blob := mustEncrypt(t, k, 5, plain, beside)
		sealed := slices.Clone(blob[16:])
		kept := slices.Concat(blob, sealed, plain, beside)
		for range 2 {
			p := read(blob)
			made, text := Blob(5, 4, api.Nonce{}, sealed), mustDecrypt(t, k, blob, beside)
			if !bytes.Equal(made, blob) || !bytes.Equal(text, plain) || !p.same(parts{5, 4, api.Nonce{}, sealed, api.OK}) {
				t.Fatalf("%d bytes: %x, %x and %x", length, made, text, p)
			}
			next, _, _ := Rewrap(k, blob, beside)
			more := mustEncrypt(t, k, 5, plain, beside)
			results := [][]byte{p.sealed, made, text, next, more}
			for i, b := range results {
				others := slices.Concat(slices.Delete(slices.Clone(results), i, i+1)...)
				spoil(b)
				if !bytes.Equal(slices.Concat(slices.Delete(slices.Clone(results), i, i+1)...), others) {
					t.Errorf("%d bytes: the result %d shares memory with another one", length, i)
				}
			}
		}
		if !bytes.Equal(slices.Concat(blob, sealed, plain, beside), kept) {
			t.Errorf("%d bytes: a result shares memory with an argument", length)
		}
	}
}

// P14.1 to P14.3: what was given out stays as it is, whatever is asked later, and whatever becomes of the arguments (rule R7).
func TestResultsStay(t *testing.T) {
	s := source(149)
	k := full(t)
	text, beside := s.bytes(40), s.bytes(20)
	blob := mustEncrypt(t, k, 1, text, beside)
	given, sealed := slices.Clone(blob), slices.Clone(blob[16:])
	results := [][]byte{blob, read(given).sealed, Blob(1, 4, api.Nonce{}, sealed), mustDecrypt(t, k, given, beside)}
	want := slices.Concat(results...)
	for _, b := range [][]byte{given, sealed, text, beside} {
		spoil(b)
	}
	for range 3 {
		mustDecrypt(t, k, mustEncrypt(t, k, 1, s.bytes(40), nil), nil)
	}
	if !bytes.Equal(slices.Concat(results...), want) {
		t.Error("a later call, or a changed argument, changes what was given out")
	}
}
