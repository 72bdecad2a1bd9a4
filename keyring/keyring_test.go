package keyring

import (
	"fmt"
	"math"
	"slices"
	"testing"

	"strongroom/api"
)

// source gives numbers without a pattern, the same ones in each run.
type source uint32

func (s *source) next() int {
	*s = *s*1664525 + 1013904223
	return int(*s >> 16)
}

func (s *source) below(n int) int { return s.next() % n }

func (s *source) key() api.Key {
	var m api.Key
	for i := range m {
		m[i] = byte(s.next())
	}
	return m
}

// The kinds of calls.
const (
	create = iota
	rotate
	switchOn
	switchOff
	destroy
	use
	material
	kinds
)

// call is a call of one of the kinds: what it doesn't take is not looked at.
type call struct {
	kind, id, version int
	m                 api.Key
}

func (c call) String() string {
	name := []string{"Create", "Rotate", "Switch on", "Switch off", "Destroy", "Use", "Material"}[c.kind]
	return fmt.Sprintf("%s(%d, %d, %x..)", name, c.id, c.version, c.m[:2])
}

// answer is what a call answers: numbers in their order, if it has any.
type answer struct {
	a, b int
	m    api.Key
	e    api.Errno
}

func (c call) to(k *Keys) answer {
	var x answer
	switch c.kind {
	case create:
		x.a, x.e = k.Create(c.m)
	case rotate:
		x.a, x.e = k.Rotate(c.id, c.m)
	case switchOn:
		x.e = k.Switch(c.id, true)
	case switchOff:
		x.e = k.Switch(c.id, false)
	case destroy:
		x.e = k.Destroy(c.id, c.version)
	case use:
		x.a, x.b, x.m, x.e = k.Use(c.id)
	case material:
		x.m, x.e = k.Material(c.id, c.version)
	}
	return x
}

// wording does what the chapter says, with lists that grow.
type wording []wordedKey

type wordedKey struct {
	enabled  bool
	versions []wordedVersion
}

type wordedVersion struct {
	material  api.Key
	uses      int
	destroyed bool
}

func (w *wording) key(id int) (*wordedKey, bool) {
	for i := range *w {
		if i+1 == id {
			return &(*w)[i], true
		}
	}
	return nil, false
}

func (w *wording) version(id, version int) (*wordedKey, *wordedVersion, bool) {
	x, ok := w.key(id)
	if !ok {
		return nil, nil, false
	}
	for i := range x.versions {
		if i+1 == version {
			return x, &x.versions[i], true
		}
	}
	return nil, nil, false
}

func (c call) toWording(w *wording) answer {
	switch c.kind {
	case create:
		return w.create(c.m)
	case rotate:
		return w.rotate(c.id, c.m)
	case switchOn, switchOff:
		x, ok := w.key(c.id)
		if !ok {
			return answer{e: api.ErrNoKey}
		}
		x.enabled = c.kind == switchOn
		return answer{}
	case destroy:
		return w.destroy(c.id, c.version)
	case use:
		return w.use(c.id)
	}
	return w.material(c.id, c.version)
}

func (w *wording) create(m api.Key) answer {
	if len(*w) == 8 {
		return answer{e: api.ErrFull}
	}
	*w = append(*w, wordedKey{enabled: true, versions: []wordedVersion{{material: m}}})
	return answer{a: len(*w)}
}

func (w *wording) rotate(id int, m api.Key) answer {
	x, ok := w.key(id)
	if !ok {
		return answer{e: api.ErrNoKey}
	}
	if len(x.versions) == 4 {
		return answer{e: api.ErrFull}
	}
	x.versions = append(x.versions, wordedVersion{material: m})
	return answer{a: len(x.versions)}
}

func (w *wording) destroy(id, version int) answer {
	_, v, ok := w.version(id, version)
	if !ok {
		return answer{e: api.ErrNoKey}
	}
	if v.destroyed {
		return answer{e: api.ErrGone}
	}
	v.destroyed, v.material = true, api.Key{}
	return answer{}
}

func (w *wording) use(id int) answer {
	x, ok := w.key(id)
	if !ok {
		return answer{e: api.ErrNoKey}
	}
	if !x.enabled {
		return answer{e: api.ErrOff}
	}
	v := &x.versions[len(x.versions)-1]
	if v.destroyed {
		return answer{e: api.ErrGone}
	}
	if v.uses == 16 {
		return answer{e: api.ErrUsed}
	}
	v.uses++
	return answer{a: len(x.versions), b: v.uses - 1, m: v.material}
}

func (w *wording) material(id, version int) answer {
	x, v, ok := w.version(id, version)
	if !ok {
		return answer{e: api.ErrNoKey}
	}
	if !x.enabled {
		return answer{e: api.ErrOff}
	}
	if v.destroyed {
		return answer{e: api.ErrGone}
	}
	return answer{m: v.material}
}

func (w *wording) rings() []api.Ring {
	var l []api.Ring
	for _, x := range *w {
		r := api.Ring{Off: !x.enabled}
		for _, v := range x.versions {
			r.L = append(r.L, api.Version{Material: v.material, Uses: v.uses, Gone: v.destroyed})
		}
		l = append(l, r)
	}
	return l
}

func wordingOf(l []api.Ring) *wording {
	w := &wording{}
	for _, r := range l {
		x := wordedKey{enabled: !r.Off}
		for _, v := range r.L {
			x.versions = append(x.versions, wordedVersion{v.Material, v.Uses, v.Gone})
		}
		*w = append(*w, x)
	}
	return w
}

func (w *wording) clone() *wording { return wordingOf(w.rings()) }

// sameRings reports whether two lists tell the same keys.
func sameRings(a, b []api.Ring) bool {
	return slices.EqualFunc(a, b, func(x, y api.Ring) bool { return x.Off == y.Off && slices.Equal(x.L, y.L) })
}

// cloneRings is a copy that shares no memory.
func cloneRings(l []api.Ring) []api.Ring {
	c := slices.Clone(l)
	for i := range c {
		c[i].L = slices.Clone(c[i].L)
	}
	return c
}

// pair is a keyring and what the chapter's wording makes of it.
type pair struct {
	k *Keys
	w *wording
}

func newPair() pair { return pair{New(), &wording{}} }

func (p pair) clone() pair { return pair{p.k.Clone(), p.w.clone()} }

// do does the same to both, and tells how they differ, if they do.
func (p pair) do(c call) error {
	got, want := c.to(p.k), c.toWording(p.w)
	if got != want {
		return fmt.Errorf("%v of %v answers %v, want %v", c, p.w.rings(), got, want)
	}
	return p.differ(c.String())
}

func (p pair) differ(name string) error {
	if got, want := p.k.Rings(), p.w.rings(); !sameRings(got, want) {
		return fmt.Errorf("after %s: Rings are %v, want %v", name, got, want)
	}
	return nil
}

// check stops the test at the first difference.
func check(t *testing.T, differences ...error) {
	t.Helper()
	for _, difference := range differences {
		if difference != nil {
			t.Fatal(difference)
		}
	}
}

// expect holds what a call answers to what is wanted.
func expect(t *testing.T, k *Keys, c call, want answer) {
	t.Helper()
	if got := c.to(k); got != want {
		t.Fatalf("%v of %v answers %v, want %v", c, k.Rings(), got, want)
	}
}

// refused expects an error, with nothing beside it and nothing changed (rule R2).
func refused(t *testing.T, k *Keys, c call, want api.Errno) {
	t.Helper()
	before := k.Rings()
	expect(t, k, c, answer{e: want})
	if after := k.Rings(); !sameRings(before, after) {
		t.Fatalf("%v, which is refused, makes %v of %v", c, after, before)
	}
}

func of(t *testing.T, l []api.Ring) *Keys {
	t.Helper()
	k, e := Of(l)
	if e != api.OK || k == nil {
		t.Fatalf("Of(%v) gives the error %d", l, e)
	}
	return k
}

// version is one with material that n tells.
func version(n, uses int) api.Version {
	return api.Version{Material: named(n), Uses: uses}
}

func gone(uses int) api.Version { return api.Version{Uses: uses, Gone: true} }

func ring(l ...api.Version) api.Ring { return api.Ring{L: l} }

func off(r api.Ring) api.Ring {
	r.Off = true
	return r
}

// named is a key that n tells, in its first bytes and in its last one.
func named(n int) api.Key { return api.Key{0: byte(n), 1: byte(n >> 8), 31: byte(n + 100)} }

// full has as many keys as there may be, each with as many versions as there may be.
func full() []api.Ring {
	l := make([]api.Ring, 8)
	for i := range l {
		for j := range 4 {
			l[i].L = append(l[i].L, version(10*i+j+1, i+j))
		}
	}
	return l
}

// noNumbers are numbers that nothing has, if the last one is that.
func noNumbers(last int) []int {
	return []int{
		last + 1, last + 2, last + 8, 255, 256, 1<<32 + 1, 1<<63 - 255, math.MaxInt - 1, math.MaxInt,
		0, -1, -2, -last, -256, math.MinInt32, math.MinInt + 2, math.MinInt + 1, math.MinInt,
	}
}

// P13.1 to P13.3: the chapter's examples.
func TestTheChaptersExamples(t *testing.T) {
	k := New()
	a, b := named(1), named(2)
	expect(t, k, call{kind: create, m: a}, answer{a: 1})
	expect(t, k, call{kind: use, id: 1}, answer{a: 1, b: 0, m: a})
	expect(t, k, call{kind: use, id: 1}, answer{a: 1, b: 1, m: a})
	expect(t, k, call{kind: rotate, id: 1, m: b}, answer{a: 2})
	expect(t, k, call{kind: use, id: 1}, answer{a: 2, b: 0, m: b})

	expect(t, k, call{kind: destroy, id: 1, version: 1}, answer{})
	expect(t, k, call{kind: material, id: 1, version: 1}, answer{e: api.ErrGone})
	expect(t, k, call{kind: material, id: 1, version: 2}, answer{m: b})
	expect(t, k, call{kind: switchOff, id: 1}, answer{})
	expect(t, k, call{kind: use, id: 1}, answer{e: api.ErrOff})
}

// P13.1: a new keyring has no keys, whatever other keyrings have, and so has the zero value.
func TestNewKeyrings(t *testing.T) {
	other := New()
	other.Create(named(1))
	for _, k := range []*Keys{New(), new(Keys), new(Keys).Clone(), New().Clone()} {
		if l := k.Rings(); len(l) != 0 {
			t.Fatalf("a new keyring has %v", l)
		}
		for kind := rotate; kind < kinds; kind++ {
			for id := -1; id <= 2; id++ {
				refused(t, k, call{kind, id, 1, named(2)}, api.ErrNoKey)
			}
		}
		expect(t, k, call{kind: create, m: named(3)}, answer{a: 1})
	}
	if l := other.Rings(); !sameRings(l, []api.Ring{ring(version(1, 0))}) {
		t.Errorf("another keyring has become %v", l)
	}
}

// P13.1: keys are numbered from 1 on, each one enabled with an unused version, and there are eight at most.
func TestCreate(t *testing.T) {
	k := New()
	var want []api.Ring
	for n := 1; n <= 8; n++ {
		expect(t, k, call{kind: create, m: named(n)}, answer{a: n})
		want = append(want, ring(version(n, 0)))
		if l := k.Rings(); !sameRings(l, want) {
			t.Fatalf("after %d times Create: %v", n, l)
		}
	}
	for range 3 {
		refused(t, k, call{kind: create, m: named(9)}, api.ErrFull)
		refused(t, k, call{kind: create}, api.ErrFull)
	}
	for n := 1; n <= 8; n++ {
		expect(t, k, call{kind: use, id: n}, answer{a: 1, m: named(n)})
	}
}

// P13.1: a key counts even if nothing can be done with it any more.
func TestFullOfKeysOutOfUse(t *testing.T) {
	for _, r := range []api.Ring{off(ring(version(1, 0))), ring(gone(0)), ring(version(1, 16)), off(ring(gone(16), gone(1), gone(2), gone(3)))} {
		var l []api.Ring
		for range 8 {
			refused(t, of(t, append(slices.Clone(l), full()[len(l):]...)), call{kind: create, m: named(1)}, api.ErrFull)
			l = append(l, r)
		}
		refused(t, of(t, l), call{kind: create, m: named(1)}, api.ErrFull)
		expect(t, of(t, l[:7]), call{kind: create, m: named(1)}, answer{a: 8})
	}
}

// P13.1: any material will do, zero bytes and that of another version too.
func TestAnyMaterial(t *testing.T) {
	var ones api.Key
	for i := range ones {
		ones[i] = 0xff
	}
	for _, m := range []api.Key{{}, ones, named(1), {31: 1}} {
		k := New()
		expect(t, k, call{kind: create, m: m}, answer{a: 1})
		expect(t, k, call{kind: create, m: m}, answer{a: 2})
		expect(t, k, call{kind: rotate, id: 1, m: m}, answer{a: 2})
		expect(t, k, call{kind: use, id: 1}, answer{a: 2, m: m})
		expect(t, k, call{kind: use, id: 2}, answer{a: 1, m: m})
		expect(t, k, call{kind: material, id: 1, version: 1}, answer{m: m})
	}
}

// P13.1: versions are numbered from 1 on, each one unused, and there are four at most; other keys stay as they are.
func TestRotate(t *testing.T) {
	for id := 1; id <= 8; id++ {
		k := New()
		var want []api.Ring
		for n := 1; n <= 8; n++ {
			k.Create(named(n))
			want = append(want, ring(version(n, 0)))
		}
		for n := 2; n <= 4; n++ {
			expect(t, k, call{kind: rotate, id: id, m: named(10 * n)}, answer{a: n})
			want[id-1].L = append(want[id-1].L, version(10*n, 0))
			if l := k.Rings(); !sameRings(l, want) {
				t.Fatalf("after %d versions of the key %d: %v", n, id, l)
			}
		}
		for range 3 {
			refused(t, k, call{kind: rotate, id: id, m: named(50)}, api.ErrFull)
		}
		for n := 1; n <= 8; n++ {
			version := 1
			if n == id {
				version = 4
			}
			expect(t, k, call{kind: use, id: n}, answer{a: version, m: want[n-1].L[version-1].Material})
		}
	}
}

// P13.1: Rotate leaves a key enabled or disabled, and its versions as they are; destroyed ones count, and used ones.
func TestRotateOfAnyKey(t *testing.T) {
	for _, last := range []api.Version{version(1, 0), version(1, 16), gone(0), gone(16)} {
		for _, isOff := range []bool{false, true} {
			k := of(t, []api.Ring{{Off: isOff, L: []api.Version{last, version(5, 3), last}}})
			expect(t, k, call{kind: rotate, id: 1, m: named(2)}, answer{a: 4})
			want := []api.Ring{{Off: isOff, L: []api.Version{last, version(5, 3), last, version(2, 0)}}}
			if l := k.Rings(); !sameRings(l, want) {
				t.Errorf("Rotate leads to %v, want %v", l, want)
			}
			refused(t, k, call{kind: rotate, id: 1, m: named(3)}, api.ErrFull)
		}
	}
}

// P13.1 to P13.3: there is no such key, whatever the version, however many keys there are.
func TestThereIsNoSuchKey(t *testing.T) {
	for count := range 9 {
		k := of(t, full()[:count])
		for kind := rotate; kind < kinds; kind++ {
			for _, id := range noNumbers(count) {
				for _, version := range []int{1, 4, 0, 5, -1, math.MinInt, math.MaxInt} {
					refused(t, k, call{kind, id, version, named(1)}, api.ErrNoKey)
				}
			}
		}
	}
}

// P13.2, P13.3: there is no such version, be the key enabled or disabled, and others of it destroyed or not.
func TestThereIsNoSuchVersion(t *testing.T) {
	for count := 1; count <= 4; count++ {
		for _, v := range []api.Version{version(1, 0), version(1, 16), gone(0)} {
			for _, isOff := range []bool{false, true} {
				r := api.Ring{Off: isOff}
				for range count {
					r.L = append(r.L, v)
				}
				k := of(t, []api.Ring{full()[0], r, full()[1]})
				for _, number := range noNumbers(count) {
					refused(t, k, call{kind: destroy, id: 2, version: number}, api.ErrNoKey)
					refused(t, k, call{kind: material, id: 2, version: number}, api.ErrNoKey)
				}
			}
		}
	}
}

// P13.2: a key is enabled or disabled as the last Switch said, whatever it was, and no other key is.
func TestSwitch(t *testing.T) {
	for id := 1; id <= 8; id++ {
		for _, first := range []api.Ring{ring(version(1, 2)), ring(gone(3)), ring(version(1, 16), gone(0))} {
			l := full()
			l[id-1] = first
			k := of(t, l)
			for i, kind := range []int{switchOn, switchOff, switchOff, switchOn, switchOn, switchOff, switchOn, switchOff} {
				expect(t, k, call{kind: kind, id: id}, answer{})
				l[id-1].Off = kind == switchOff
				if got := k.Rings(); !sameRings(got, l) {
					t.Fatalf("key %d, Switch %d: %v, want %v", id, i, got, l)
				}
			}
		}
	}
}

// P13.2: a disabled key gives nothing out, and an enabled one goes on as it was.
func TestAKeyThatIsSwitchedOnAgain(t *testing.T) {
	k := of(t, []api.Ring{ring(version(1, 5), version(2, 7)), ring(version(3, 0))})
	k.Switch(1, false)
	refused(t, k, call{kind: use, id: 1}, api.ErrOff)
	refused(t, k, call{kind: material, id: 1, version: 1}, api.ErrOff)
	refused(t, k, call{kind: material, id: 1, version: 2}, api.ErrOff)
	expect(t, k, call{kind: use, id: 2}, answer{a: 1, m: named(3)})
	k.Switch(1, true)
	expect(t, k, call{kind: use, id: 1}, answer{a: 2, b: 7, m: named(2)})
	expect(t, k, call{kind: material, id: 1, version: 1}, answer{m: named(1)})
}

// P13.2: Destroy takes the material of one version, once, and leaves how often it was used, of an enabled key and of a disabled one.
func TestDestroy(t *testing.T) {
	for _, isOff := range []bool{false, true} {
		for id := 1; id <= 8; id++ {
			for number := 1; number <= 4; number++ {
				l := full()
				l[id-1].Off = isOff
				k := of(t, l)
				expect(t, k, call{kind: destroy, id: id, version: number}, answer{})
				l[id-1].L[number-1] = gone(id + number - 2)
				if got := k.Rings(); !sameRings(got, l) {
					t.Fatalf("Destroy(%d, %d) leads to %v, want %v", id, number, got, l)
				}
				for range 2 {
					refused(t, k, call{kind: destroy, id: id, version: number}, api.ErrGone)
				}
			}
		}
	}
}

// P13.2: each version can be destroyed, in any order, up to the last; used or not, with any material.
func TestDestroyAllVersions(t *testing.T) {
	for _, order := range [][]int{{1, 2, 3, 4}, {4, 3, 2, 1}, {2, 4, 1, 3}, {3, 1, 4, 2}} {
		l := []api.Ring{ring(version(1, 0), version(2, 16), api.Version{Uses: 3}, api.Version{Material: api.Key{31: 1}, Uses: 4})}
		k := of(t, l)
		for _, number := range order {
			expect(t, k, call{kind: destroy, id: 1, version: number}, answer{})
			refused(t, k, call{kind: material, id: 1, version: number}, api.ErrGone)
			l[0].L[number-1] = gone(l[0].L[number-1].Uses)
			if got := k.Rings(); !sameRings(got, l) {
				t.Fatalf("Destroy of %d in %v leads to %v, want %v", number, order, got, l)
			}
		}
	}
}

// P13.3: a version can be used 16 times, each time with the next number; then the next version can, and each key has its own.
func TestUse(t *testing.T) {
	k := New()
	k.Create(named(1))
	k.Create(named(2))
	for number := 1; number <= 4; number++ {
		m := named(1)
		if number > 1 {
			m = named(10 * number)
			expect(t, k, call{kind: rotate, id: 1, m: m}, answer{a: number})
		}
		for n := range 16 {
			expect(t, k, call{kind: use, id: 1}, answer{a: number, b: n, m: m})
			if got := k.Rings()[0].L[number-1]; got != (api.Version{Material: m, Uses: n + 1}) {
				t.Fatalf("used %d times, the version %d is %v", n+1, number, got)
			}
		}
		for range 3 {
			refused(t, k, call{kind: use, id: 1}, api.ErrUsed)
		}
		expect(t, k, call{kind: use, id: 2}, answer{a: 1, b: number - 1, m: named(2)})
	}
	for number := 1; number <= 4; number++ {
		if got := k.Rings()[0].L[number-1].Uses; got != 16 {
			t.Errorf("the version %d was used %d times", number, got)
		}
	}
}

// P13.3: all that can speak against a use, with one another: of several the first one that the chapter mentions is told (rule R3).
func TestWhatSpeaksAgainstAUse(t *testing.T) {
	for _, isOff := range []bool{false, true} {
		for _, isGone := range []bool{false, true} {
			for _, uses := range []int{0, 1, 15, 16} {
				v := version(7, uses)
				if isGone {
					v = gone(uses)
				}
				c := call{kind: use, id: 2}
				k := of(t, []api.Ring{full()[0], {Off: isOff, L: []api.Version{version(5, 2), v}}})
				switch {
				case isOff:
					refused(t, k, c, api.ErrOff)
				case isGone:
					refused(t, k, c, api.ErrGone)
				case uses == 16:
					refused(t, k, c, api.ErrUsed)
				default:
					expect(t, k, c, answer{a: 2, b: uses, m: named(7)})
				}
			}
		}
	}
}

// P13.3: Use goes by the last version alone, whatever the others are, and leaves the others.
func TestUseOfTheLastVersion(t *testing.T) {
	for count := 1; count <= 4; count++ {
		for _, other := range []api.Version{version(1, 0), version(1, 9), version(1, 16), gone(0), gone(16)} {
			var l []api.Version
			for range count - 1 {
				l = append(l, other)
			}
			l = append(l, version(7, 3))
			k := of(t, []api.Ring{ring(l...)})
			expect(t, k, call{kind: use, id: 1}, answer{a: count, b: 3, m: named(7)})
			l[count-1].Uses = 4
			if got := k.Rings(); !sameRings(got, []api.Ring{ring(l...)}) {
				t.Errorf("Use leads to %v, want %v", got, l)
			}
			k.Destroy(1, count)
			refused(t, k, call{kind: use, id: 1}, api.ErrGone)
		}
	}
}

// P13.3: the material of each version of an enabled key, however often it was used; asking for it is no use.
func TestMaterial(t *testing.T) {
	k := of(t, full())
	for range 20 {
		for id := 1; id <= 8; id++ {
			for number := 1; number <= 4; number++ {
				expect(t, k, call{kind: material, id: id, version: number}, answer{m: named(10*(id-1) + number)})
			}
		}
	}
	if got := k.Rings(); !sameRings(got, full()) {
		t.Errorf("asking for material leads to %v", got)
	}
	k = of(t, []api.Ring{ring(version(1, 16), version(2, 16))})
	expect(t, k, call{kind: material, id: 1, version: 1}, answer{m: named(1)})
	expect(t, k, call{kind: material, id: 1, version: 2}, answer{m: named(2)})
}

// P13.3: that a key is disabled is told ahead of a version that is destroyed, and only of versions that there are.
func TestWhatSpeaksAgainstGivingMaterial(t *testing.T) {
	r := ring(version(1, 0), gone(3), version(2, 16))
	k := of(t, []api.Ring{r, off(r)})
	expect(t, k, call{kind: material, id: 1, version: 1}, answer{m: named(1)})
	refused(t, k, call{kind: material, id: 1, version: 2}, api.ErrGone)
	expect(t, k, call{kind: material, id: 1, version: 3}, answer{m: named(2)})
	for number := 1; number <= 3; number++ {
		refused(t, k, call{kind: material, id: 2, version: number}, api.ErrOff)
	}
	for id := 1; id <= 2; id++ {
		refused(t, k, call{kind: material, id: id, version: 4}, api.ErrNoKey)
		refused(t, k, call{kind: material, id: id, version: 0}, api.ErrNoKey)
	}
}

// P13.4: Rings tells all there is, in order; Of takes each number of keys, of versions and of uses.
func TestOfWhatMayBe(t *testing.T) {
	for count := range 9 {
		for versions := 1; versions <= 4; versions++ {
			for uses := range 17 {
				var l []api.Ring
				for i := range count {
					r := api.Ring{Off: (i+uses)%3 == 0}
					for j := range versions {
						v := version(10*i+j+1, uses)
						if (i+j+uses)%4 == 0 {
							v = gone(uses)
						}
						r.L = append(r.L, v)
					}
					l = append(l, r)
				}
				if got := of(t, l).Rings(); !sameRings(got, l) {
					t.Fatalf("Of(%v) has %v", l, got)
				}
			}
		}
	}
	for _, l := range [][]api.Ring{nil, {}} {
		k := of(t, l)
		if got := k.Rings(); len(got) != 0 {
			t.Errorf("Of(%#v) has %v", l, got)
		}
		expect(t, k, call{kind: create, m: named(1)}, answer{a: 1})
	}
}

// wrong expects that Of refuses a list, and leaves it as it is.
func wrong(t *testing.T, name string, l []api.Ring) {
	t.Helper()
	before := cloneRings(l)
	if k, e := Of(l); k != nil || e != api.ErrArg {
		t.Fatalf("%s: Of(%v) = %v, %d, want nil and ErrArg", name, l, k, e)
	}
	if !sameRings(l, before) {
		t.Fatalf("%s: Of changes %v to %v", name, before, l)
	}
}

// P13.4: Of refuses too many keys, and keys with too few versions or too many, at each place.
func TestOfTooFewOrTooMany(t *testing.T) {
	for _, count := range []int{9, 10, 16, 255, 256, 264, 1 << 12} {
		l := make([]api.Ring, count)
		for i := range l {
			l[i] = ring(version(1, 0))
		}
		wrong(t, fmt.Sprint(count, " keys"), l)
	}
	wrong(t, "a key without versions", []api.Ring{{}})
	for i := range 8 {
		for _, count := range []int{0, 5, 6, 8, 256, 257, 260} {
			l := full()
			l[i].L = make([]api.Version, count)
			wrong(t, fmt.Sprintf("%d versions of the key %d", count, i+1), l)
			wrong(t, fmt.Sprintf("%d versions of the last key %d", count, i+1), l[:i+1])
			wrong(t, fmt.Sprintf("%d versions of a disabled key", count), []api.Ring{off(l[i])})
		}
		l := full()
		l[i].L = nil
		wrong(t, fmt.Sprintf("the key %d with nil", i+1), l)
	}
}

// P13.4: Of refuses what no version is, at each place.
func TestOfWrongVersions(t *testing.T) {
	var versions []api.Version
	for _, uses := range []int{-1, -2, -16, -17, math.MinInt, math.MinInt + 1, math.MinInt32, 17, 18, 32, 255, 256, 257, 1 << 32, 1<<32 + 1, math.MaxInt} {
		versions = append(versions, version(1, uses), gone(uses), api.Version{Uses: uses})
	}
	for i := range 32 {
		for _, bit := range []byte{1, 0x80} {
			v := gone(int(bit) / 8)
			v.Material[i] = bit
			versions = append(versions, v)
		}
	}
	for _, v := range versions {
		for i := range 8 {
			for j := range 4 {
				l := full()
				l[i].L[j] = v
				wrong(t, fmt.Sprintf("version %d of the key %d", j+1, i+1), l)
				l[i].Off = true
				l[i].L = l[i].L[:j+1]
				wrong(t, fmt.Sprintf("the last version %d of the disabled key %d", j+1, i+1), l)
			}
		}
		wrong(t, "a single version", []api.Ring{ring(v)})
	}
}

// P13.4: several things that are wrong are no better than one.
func TestOfSeveralWrongs(t *testing.T) {
	l := append(full(), ring())
	l[2].L[1].Uses = 17
	l[4].L[3].Gone = true
	l[5].L = make([]api.Version, 5)
	wrong(t, "all at once", l)
	wrong(t, "all but the number of keys", l[:8])
	wrong(t, "destroyed with material, and used too often", []api.Ring{ring(api.Version{Material: named(1), Uses: 17, Gone: true})})
}

// P13.4: a keyring of a list goes on as one that came to it by calls.
func TestOfGoesOn(t *testing.T) {
	k := of(t, []api.Ring{off(ring(version(1, 16), gone(2))), ring(version(3, 15))})
	refused(t, k, call{kind: use, id: 1}, api.ErrOff)
	expect(t, k, call{kind: switchOn, id: 1}, answer{})
	refused(t, k, call{kind: use, id: 1}, api.ErrGone)
	expect(t, k, call{kind: rotate, id: 1, m: named(4)}, answer{a: 3})
	expect(t, k, call{kind: use, id: 1}, answer{a: 3, m: named(4)})
	expect(t, k, call{kind: use, id: 2}, answer{a: 1, b: 15, m: named(3)})
	refused(t, k, call{kind: use, id: 2}, api.ErrUsed)
	expect(t, k, call{kind: create, m: named(5)}, answer{a: 3})
}

// spoil changes all that a list has, to the whole capacity of each part.
func spoil(l []api.Ring) {
	for i := range l {
		whole := l[i].L[:cap(l[i].L)]
		for j := range whole {
			whole[j] = api.Version{Material: named(200 + j), Uses: 9, Gone: !whole[j].Gone}
		}
	}
	whole := l[:cap(l)]
	for i := range whole {
		whole[i] = api.Ring{Off: !whole[i].Off}
	}
}

// changes are calls that change each part of a keyring.
func changes() []call {
	var l []call
	for id := 1; id <= 8; id++ {
		l = append(l, call{kind: use, id: id}, call{kind: create, m: named(90)}, call{kind: rotate, id: id, m: named(91)}, call{kind: use, id: id})
		l = append(l, call{kind: destroy, id: id, version: 1}, call{kind: destroy, id: id, version: 2}, call{kind: switchOff, id: id})
	}
	return l
}

// P13.4: what is done with the list that Rings gave out shows neither in the keyring nor in another such list (rule R7).
func TestRingsAreTheCallers(t *testing.T) {
	for count := range 9 {
		for versions := 1; versions <= 4; versions++ {
			l := full()[:count]
			for i := range l {
				l[i].L = l[i].L[:versions]
			}
			k := of(t, l)
			kept := k.Rings()
			spoil(k.Rings())
			if got := k.Rings(); !sameRings(got, l) || !sameRings(kept, l) {
				t.Fatalf("spoiling what was given out leads to %v and %v", got, kept)
			}
			for _, c := range changes() {
				c.to(k)
			}
			if !sameRings(kept, l) {
				t.Fatalf("later calls change what was given out to %v", kept)
			}
		}
	}
}

// P13.4: no two lists of one answer share memory, spare capacity and all.
func TestRingsShareNothing(t *testing.T) {
	want := full()
	for i := range want {
		want[i].L = want[i].L[:1+i%4]
	}
	k := of(t, want)
	for i := range want {
		l := k.Rings()
		for range 8 {
			l[i].L = append(l[i].L, version(99, 1))
		}
		whole := l[i].L[:cap(l[i].L)]
		for j := range whole {
			whole[j] = version(98, 1)
		}
		for j := range want {
			if j != i && !slices.Equal(l[j].L, want[j].L) {
				t.Fatalf("writing to the key %d changes the key %d to %v", i+1, j+1, l[j].L)
			}
		}
	}
	if got := k.Rings(); !sameRings(got, want) {
		t.Errorf("appending to what was given out leads to %v", got)
	}
}

// roomy is a list each of whose slices has spare capacity, with something in it.
func roomy(l []api.Ring) []api.Ring {
	r := append(cloneRings(l), ring(version(70, 1)), ring(version(71, 1)))[:len(l)]
	for i := range r {
		r[i].L = append(r[i].L, version(72, 1), version(73, 1))[:len(l[i].L)]
	}
	return r
}

// behind is what is in the spare capacity of a list's slices, as far as roomy put it there.
func behind(l []api.Ring) []api.Ring {
	b := cloneRings(l[len(l) : len(l)+2])
	for _, r := range l {
		b = append(b, ring(slices.Clone(r.L[len(r.L):len(r.L)+2])...))
	}
	return b
}

// P13.4: Of neither changes nor keeps the list, nor what is behind it (rule R7).
func TestOfLeavesItsArgument(t *testing.T) {
	for count := range 9 {
		want := full()[:count]
		for i := range want {
			want[i].L = want[i].L[:1+i%4]
		}
		l := roomy(want)
		before := behind(l)
		k := of(t, l)
		for _, c := range changes() {
			c.to(k)
		}
		if !sameRings(l, want) || !sameRings(behind(l), before) {
			t.Fatalf("later calls change the list to %v, and %v behind it", l, behind(l))
		}
		k = of(t, l)
		spoil(l)
		if got := k.Rings(); !sameRings(got, want) {
			t.Fatalf("spoiling the list makes the keyring %v, want %v", got, want)
		}
	}
}

// P13.4: neither of two clones sees what is done to the other one.
func TestClonesAreIndependent(t *testing.T) {
	for count := range 9 {
		l := full()[:count]
		for i := range l {
			l[i].L = l[i].L[:1+i%4]
			l[i].Off = i%3 == 2
		}
		for changed := range 2 {
			k := of(t, l)
			both := []*Keys{k, k.Clone()}
			if got := both[1].Rings(); !sameRings(got, l) {
				t.Fatalf("a clone has %v, want %v", got, l)
			}
			w := wordingOf(l)
			for _, c := range changes() {
				expect(t, both[changed], c, c.toWording(w))
				if got := both[1-changed].Rings(); !sameRings(got, l) {
					t.Fatalf("%v of the other one makes %v", c, got)
				}
			}
			w = wordingOf(l)
			for _, c := range changes() {
				expect(t, both[1-changed], c, c.toWording(w))
			}
		}
	}
}

// starts are keyrings at and about the limits.
func starts() [][]api.Ring {
	return [][]api.Ring{
		nil,
		{ring(version(1, 0))},
		{ring(version(1, 14), version(2, 15)), ring(version(3, 16))},
		{off(ring(version(1, 3), gone(1), version(3, 14))), ring(gone(0))},
		append(full()[:5], ring(version(4, 1)), ring(version(5, 15), gone(16), version(6, 0))),
	}
}

// callsAbout are all calls with numbers about those that there are.
func callsAbout() []call {
	l := []call{{kind: create, m: named(60)}}
	for id := range 4 {
		for kind := rotate; kind < kinds; kind++ {
			versions := 1
			if kind == destroy || kind == material {
				versions = 5
			}
			for version := range versions {
				l = append(l, call{kind, id, version, named(61)})
			}
		}
	}
	return l
}

// P13.1 to P13.4: all sequences of three calls, from keyrings at and about the limits, against the chapter's wording.
func TestShortSequences(t *testing.T) {
	var follow func(p pair, depth int)
	follow = func(p pair, depth int) {
		for _, c := range callsAbout() {
			next := p.clone()
			check(t, next.do(c))
			if depth > 1 {
				follow(next, depth-1)
			}
		}
	}
	for _, l := range starts() {
		follow(pair{of(t, l), wordingOf(l)}, 3)
	}
}

// anyCall is a call with any numbers, most of them of what there is.
func (s *source) anyCall() call {
	c := call{kind: s.below(kinds), id: s.below(10), version: s.below(6), m: s.key()}
	if s.below(3) == 0 {
		c.kind = use
	}
	if s.below(40) == 0 {
		c.id = noNumbers(8)[s.below(18)]
	}
	if s.below(40) == 0 {
		c.version = noNumbers(4)[s.below(18)]
	}
	if c.kind == destroy && s.below(3) > 0 {
		c.kind = switchOn
	}
	return c
}

// P13.1 to P13.5: long ways with many clones, and keyrings of what Rings tell, against the chapter's wording.
func TestLongWays(t *testing.T) {
	s := source(1300)
	for range 60 {
		l := []pair{newPair()}
		for range 600 {
			at := s.below(len(l))
			check(t, l[at].do(s.anyCall()))
			switch s.below(30) {
			case 0:
				l = append(l, l[at].clone())
			case 1:
				l = append(l, pair{of(t, l[at].k.Rings()), l[at].w.clone()})
			}
			if len(l) > 6 {
				l = slices.Delete(l, 0, 1)
			}
		}
		for _, p := range l {
			check(t, p.differ("all"))
		}
	}
}

// place is a version of a key.
type place struct{ id, version int }

// P13.5: on whatever way, material stays until it is destroyed, no version is used more than 16 times, and each use has a number of its own.
func TestWhatFollows(t *testing.T) {
	s := source(1301)
	uses := 0
	for range 100 {
		k := New()
		materials := map[place]api.Key{}
		seen := map[place][]int{}
		for range 500 {
			c := s.anyCall()
			got := c.to(k)
			switch {
			case got.e != api.OK:
			case c.kind == create:
				materials[place{got.a, 1}] = c.m
			case c.kind == rotate:
				materials[place{c.id, got.a}] = c.m
			case c.kind == destroy:
				materials[place{c.id, c.version}] = api.Key{}
			case c.kind == use:
				at := place{c.id, got.a}
				if slices.Contains(seen[at], got.b) || got.m != materials[at] {
					t.Fatalf("%v answers %v, after the uses %v of the material %x", c, got, seen[at], materials[at])
				}
				seen[at] = append(seen[at], got.b)
				uses++
			}
			holdTo(t, k, materials, seen)
			if s.below(20) == 0 {
				k = of(t, k.Rings())
			}
		}
	}
	if uses < 1000 {
		t.Errorf("the ways had %d uses alone", uses)
	}
}

// holdTo holds a keyring to the material that it was given, and to the uses that it told.
func holdTo(t *testing.T, k *Keys, materials map[place]api.Key, seen map[place][]int) {
	t.Helper()
	count := 0
	for i, r := range k.Rings() {
		for j, v := range r.L {
			at := place{i + 1, j + 1}
			count++
			if v.Material != materials[at] || v.Uses != len(seen[at]) || v.Uses > 16 {
				t.Fatalf("%v is %v, with the uses %v and the material %x", at, v, seen[at], materials[at])
			}
		}
	}
	if count != len(materials) {
		t.Fatalf("there are %d versions, want %d", count, len(materials))
	}
}

// P13.5: Of, applied to the result of Rings, is an equal keyring: whatever is called next, both answer the same.
func TestOfRingsIsEqual(t *testing.T) {
	s := source(1302)
	for range 200 {
		k := New()
		for range s.below(200) {
			s.anyCall().to(k)
		}
		again := of(t, k.Rings())
		for range 100 {
			c := s.anyCall()
			if got, want := c.to(again), c.to(k); got != want {
				t.Fatalf("%v answers %v, and of the first keyring %v", c, got, want)
			}
			if got, want := again.Rings(), k.Rings(); !sameRings(got, want) {
				t.Fatalf("%v leads to %v, and of the first keyring to %v", c, got, want)
			}
		}
	}
}
