package envelope

import (
	"bytes"
	"crypto/aes"
	"crypto/cipher"
	"encoding/hex"
	"fmt"
	"math/big"
	"reflect"
	"slices"
	"testing"

	"strongroom/api"
	"strongroom/keyring"
)

// source gives bytes without a pattern, the same ones in each run.
type source uint32

func (s *source) next() int {
	*s = *s*1664525 + 1013904223
	return int(*s >> 16)
}

func (s *source) below(n int) int { return s.next() % n }

func (s *source) bytes(length int) []byte {
	b := make([]byte, length)
	for i := range b {
		b[i] = byte(s.next())
	}
	return b
}

func bytesOf(t *testing.T, digits string) []byte {
	t.Helper()
	b, err := hex.DecodeString(digits)
	if err != nil {
		t.Fatalf("%q is not in hexadecimal", digits)
	}
	return b
}

func gcmOf(m api.Key) cipher.AEAD {
	c, err := aes.NewCipher(m[:])
	if err != nil {
		panic(err)
	}
	g, err := cipher.NewGCM(c)
	if err != nil {
		panic(err)
	}
	return g
}

// sealByWording seals by the library's GCM.
func sealByWording(m api.Key, n api.Nonce, beside, text []byte) []byte {
	return gcmOf(m).Seal(nil, n[:], text, beside)
}

// numberByWording is the encoding of a number that is not negative.
func numberByWording(number int) []byte {
	digits := big.NewInt(int64(number)).Bytes()
	return append([]byte{byte(len(digits))}, digits...)
}

func blobByWording(id, version int, n api.Nonce, sealed []byte) []byte {
	return slices.Concat(numberByWording(id), numberByWording(version), n[:], sealed)
}

// nonceByWording writes the count down as the last sixteen digits of twenty-four.
func nonceByWording(count int) api.Nonce {
	b, err := hex.DecodeString(fmt.Sprintf("%024x", count))
	if err != nil {
		panic(err)
	}
	return api.Nonce(b)
}

// numberFrom takes a number of at least 1 that has exactly these first bytes as its encoding.
func numberFrom(b []byte) (number int, rest []byte, ok bool) {
	if len(b) == 0 || b[0] > 8 || len(b) <= int(b[0]) {
		return 0, nil, false
	}
	front := b[:1+b[0]]
	x := new(big.Int).SetBytes(front[1:])
	if !x.IsInt64() || x.Sign() < 1 || !bytes.Equal(numberByWording(int(x.Int64())), front) {
		return 0, nil, false
	}
	return int(x.Int64()), b[len(front):], true
}

// parts are what Read answers.
type parts struct {
	id, version int
	n           api.Nonce
	sealed      []byte
	e           api.Errno
}

func read(blob []byte) parts {
	var p parts
	p.id, p.version, p.n, p.sealed, p.e = Read(blob)
	return p
}

func readByWording(blob []byte) parts {
	bad := parts{e: api.ErrBlob}
	id, rest, ok := numberFrom(blob)
	if !ok {
		return bad
	}
	version, rest, ok := numberFrom(rest)
	if !ok || len(rest) < 12+16 || len(rest) > 12+80 {
		return bad
	}
	return parts{id: id, version: version, n: api.Nonce(rest[:12]), sealed: rest[12:]}
}

func (p parts) same(q parts) bool {
	return p.id == q.id && p.version == q.version && p.n == q.n && p.e == q.e && bytes.Equal(p.sealed, q.sealed)
}

// The kinds of calls: those of this package, and those that change a keyring.
const (
	encrypt = iota
	decrypt
	rewrap
	create
	rotate
	switchOn
	switchOff
	destroy
	use
	kinds
)

// call is a call of one of the kinds: what it doesn't take is not looked at.
type call struct {
	kind, id, version int
	b, beside         []byte // b is the text or the blob
	m                 api.Key
}

func (c call) String() string {
	name := []string{"Encrypt", "Decrypt", "Rewrap", "Create", "Rotate", "Switch on", "Switch off", "Destroy", "Use"}[c.kind]
	return fmt.Sprintf("%s(%d, %d, %x, %x)", name, c.id, c.version, c.b, c.beside)
}

// answer is what a call answers: bytes and a number, if it has them.
type answer struct {
	b []byte
	n int
	e api.Errno
}

func (a answer) same(x answer) bool { return bytes.Equal(a.b, x.b) && a.n == x.n && a.e == x.e }

func (c call) to(k *keyring.Keys) answer {
	var a answer
	switch c.kind {
	case encrypt:
		a.b, a.n, a.e = Encrypt(k, c.id, c.b, c.beside)
	case decrypt:
		a.b, a.e = Decrypt(k, c.b, c.beside)
	case rewrap:
		a.b, a.n, a.e = Rewrap(k, c.b, c.beside)
	default:
		return c.toKeyring(k)
	}
	return a
}

func (c call) toKeyring(k *keyring.Keys) answer {
	var a answer
	switch c.kind {
	case create:
		a.n, a.e = k.Create(c.m)
	case rotate:
		a.n, a.e = k.Rotate(c.id, c.m)
	case switchOn, switchOff:
		a.e = k.Switch(c.id, c.kind == switchOn)
	case destroy:
		a.e = k.Destroy(c.id, c.version)
	case use:
		a.n, _, _, a.e = k.Use(c.id)
	}
	return a
}

// toWording does what the chapter says, by the library's GCM, to a keyring of its own.
func (c call) toWording(k *keyring.Keys) answer {
	switch c.kind {
	case encrypt:
		return encryptByWording(k, c.id, c.b, c.beside)
	case decrypt:
		return decryptByWording(k, c.b, c.beside)
	case rewrap:
		text := decryptByWording(k, c.b, c.beside)
		if text.e != api.OK {
			return text
		}
		return encryptByWording(k, readByWording(c.b).id, text.b, c.beside)
	}
	return c.toKeyring(k)
}

func encryptByWording(k *keyring.Keys, id int, text, beside []byte) answer {
	if len(text) > 64 || len(beside) > 32 {
		return answer{e: api.ErrLong}
	}
	version, count, m, e := k.Use(id)
	if e != api.OK {
		return answer{e: e}
	}
	n := nonceByWording(count)
	return answer{b: blobByWording(id, version, n, sealByWording(m, n, beside, text)), n: version}
}

func decryptByWording(k *keyring.Keys, blob, beside []byte) answer {
	if len(beside) > 32 {
		return answer{e: api.ErrLong}
	}
	p := readByWording(blob)
	if p.e != api.OK {
		return answer{e: p.e}
	}
	m, e := k.Material(p.id, p.version)
	if e != api.OK {
		return answer{e: e}
	}
	text, err := gcmOf(m).Open(nil, p.n[:], p.sealed, beside)
	if err != nil {
		return answer{e: api.ErrForged}
	}
	return answer{b: text}
}

// pair is a keyring that the package works with, and one that the wording does.
type pair struct{ k, w *keyring.Keys }

func pairOf(k *keyring.Keys) pair { return pair{k.Clone(), k.Clone()} }

func (p pair) clone() pair { return pair{p.k.Clone(), p.w.Clone()} }

func sameKeys(k, w *keyring.Keys) bool { return reflect.DeepEqual(k.Rings(), w.Rings()) }

// do does a call in both ways, which have to answer the same and to lead to the same.
func (p pair) do(t *testing.T, c call) answer {
	t.Helper()
	got, want := c.to(p.k), c.toWording(p.w)
	if !got.same(want) {
		t.Fatalf("%v = %x, want %x", c, got, want)
	}
	if got.e != api.OK && (got.b != nil || got.n != 0) {
		t.Fatalf("%v answers %x beside its error", c, got)
	}
	if !sameKeys(p.k, p.w) {
		t.Fatalf("%v leads to %v, want %v", c, p.k.Rings(), p.w.Rings())
	}
	return got
}
