package disk

import (
	"bytes"
	"fmt"
	"math"
	"slices"
	"strings"
	"testing"

	"strongroom/api"
)

// source gives numbers without a pattern, the same ones in each run.
type source uint32

func (s *source) next() int {
	*s = *s*1664525 + 1013904223
	return int(*s >> 16)
}

func (s *source) below(n int) int { return s.next() % n }

func (s *source) text(length int) string {
	b := make([]byte, length)
	for i := range b {
		b[i] = byte(s.next())
	}
	return string(b)
}

// keep is a row of numbers for Boot, of any length up to some more than it looks at, great and negative ones among them.
func (s *source) keep() []int {
	keep := make([]int, s.below(16))
	for i := range keep {
		switch s.below(8) {
		case 0:
			keep[i] = []int{math.MinInt, math.MinInt + 1, math.MaxInt, math.MaxInt - 1, math.MinInt32, 1 << 40, -256, 256}[s.below(8)]
		default:
			keep[i] = s.below(600) - 300
		}
	}
	return keep
}

// wording does what the chapter says, step by step.
type wording struct {
	files [4]wordedFile
	steps int
	on    bool
	fuse  *int
}

type wordedFile struct {
	durable string
	pending []wordedChange
}

type wordedChange struct {
	isAppend bool
	text     string // of an Append
	size     int    // of a Cut
}

func (f wordedFile) afterFirst(k int) string {
	content := f.durable
	for _, c := range f.pending[:k] {
		if c.isAppend {
			content += c.text
		} else {
			content = content[:c.size]
		}
	}
	return content
}

func (f wordedFile) content() string { return f.afterFirst(len(f.pending)) }

func newByWording() *wording { return &wording{on: true} }

func (w *wording) clone() *wording {
	c := *w
	for f := range c.files {
		c.files[f].pending = slices.Clone(c.files[f].pending)
	}
	if w.fuse != nil {
		left := *w.fuse
		c.fuse = &left
	}
	return &c
}

func (w *wording) setFuse(n int) {
	w.fuse = nil
	if n >= 0 {
		w.fuse = &n
	}
}

// power is what an attempt of a step makes of the power.
func (w *wording) power() api.Errno {
	if !w.on {
		return api.ErrPower
	}
	if w.fuse != nil && *w.fuse == 0 {
		w.on = false
		return api.ErrPower
	}
	return api.OK
}

func (w *wording) stepped() api.Errno {
	w.steps++
	if w.fuse != nil {
		*w.fuse--
	}
	return api.OK
}

func (w *wording) append(f int, text string) api.Errno {
	if f < 0 || f > 3 {
		return api.ErrArg
	}
	if e := w.power(); e != api.OK {
		return e
	}
	if len(w.files[f].content())+len(text) > 1048576 {
		return api.ErrLong
	}
	w.files[f].pending = append(w.files[f].pending, wordedChange{isAppend: true, text: text})
	return w.stepped()
}

func (w *wording) cut(f, size int) api.Errno {
	if f < 0 || f > 3 || size < 0 || size > len(w.files[f].content()) {
		return api.ErrArg
	}
	if e := w.power(); e != api.OK {
		return e
	}
	w.files[f].pending = append(w.files[f].pending, wordedChange{size: size})
	return w.stepped()
}

func (w *wording) sync(f int) api.Errno {
	if f < 0 || f > 3 {
		return api.ErrArg
	}
	if e := w.power(); e != api.OK {
		return e
	}
	w.files[f] = wordedFile{durable: w.files[f].content()}
	return w.stepped()
}

func (w *wording) read(f int) (string, api.Errno) {
	switch {
	case f < 0 || f > 3:
		return "", api.ErrArg
	case !w.on:
		return "", api.ErrPower
	}
	return w.files[f].content(), api.OK
}

func (w *wording) boot(keep []int) {
	number := func(i int) uint64 {
		if i >= len(keep) {
			return 0
		}
		if keep[i] < 0 {
			return uint64(-(keep[i] + 1))
		}
		return uint64(keep[i])
	}
	for f, x := range w.files {
		k := int(number(f) % uint64(len(x.pending)+1))
		content := x.afterFirst(k)
		if k < len(x.pending) && x.pending[k].isAppend {
			text := x.pending[k].text
			p := int(number(4+f) % uint64(len(text)+1))
			if p != 0 {
				content += text[:p-1] + string([]byte{text[p-1] ^ byte(number(8+f)&255)})
			}
		}
		w.files[f] = wordedFile{durable: content}
	}
	w.on = true
	w.fuse = nil
}

// pair is a disk and what the chapter's wording makes of it.
type pair struct {
	d *Disk
	w *wording
}

func newPair() pair { return pair{New(), newByWording()} }

func (p pair) clone() pair { return pair{p.d.Clone(), p.w.clone()} }

// do does the same to both, and tells how they differ, if they do.
func (p pair) do(name string, d func(*Disk) api.Errno, w func(*wording) api.Errno) error {
	if got, want := d(p.d), w(p.w); got != want {
		return fmt.Errorf("%s gives the error %d, want %d", name, got, want)
	}
	return p.differ(name)
}

func (p pair) append(f int, text string) error {
	return p.do(fmt.Sprintf("Append(%d, %d bytes)", f, len(text)), func(d *Disk) api.Errno { return d.Append(f, []byte(text)) }, func(w *wording) api.Errno { return w.append(f, text) })
}

func (p pair) cut(f, size int) error {
	return p.do(fmt.Sprintf("Cut(%d, %d)", f, size), func(d *Disk) api.Errno { return d.Cut(f, size) }, func(w *wording) api.Errno { return w.cut(f, size) })
}

func (p pair) sync(f int) error {
	return p.do(fmt.Sprintf("Sync(%d)", f), func(d *Disk) api.Errno { return d.Sync(f) }, func(w *wording) api.Errno { return w.sync(f) })
}

func (p pair) boot(keep []int) error {
	return p.do(fmt.Sprintf("Boot(%d)", keep), func(d *Disk) api.Errno { d.Boot(keep); return api.OK }, func(w *wording) api.Errno { w.boot(keep); return api.OK })
}

func (p pair) fuse(n int) error {
	return p.do(fmt.Sprintf("Fuse(%d)", n), func(d *Disk) api.Errno { d.Fuse(n); return api.OK }, func(w *wording) api.Errno { w.setFuse(n); return api.OK })
}

// differ tells how the disk differs from the wording in what it shows as it is.
func (p pair) differ(name string) error {
	if p.d.On() != p.w.on || p.d.Steps() != p.w.steps {
		return fmt.Errorf("after %s: On %v, Steps %d, want %v, %d", name, p.d.On(), p.d.Steps(), p.w.on, p.w.steps)
	}
	for f := -1; f <= 4; f++ {
		got, e := p.d.Read(f)
		want, wantError := p.w.read(f)
		if string(got) != want || e != wantError || e != api.OK && got != nil {
			return fmt.Errorf("after %s: Read(%d) = %s, %d, want %s, %d", name, f, brief(string(got)), e, brief(want), wantError)
		}
	}
	return nil
}

// brief is a text as it can be printed.
func brief(text string) string {
	if len(text) > 60 {
		return fmt.Sprintf("%q .. (%d bytes)", text[:60], len(text))
	}
	return fmt.Sprintf("%q", text)
}

// check stops the test at the first difference.
func check(t *testing.T, differences ...error) {
	t.Helper()
	for _, difference := range differences {
		if difference != nil {
			t.Fatal(difference)
		}
	}
}

// read is Read where it has to succeed.
func read(t *testing.T, d *Disk, f int) string {
	t.Helper()
	b, e := d.Read(f)
	if e != api.OK {
		t.Fatalf("Read(%d) gives the error %d", f, e)
	}
	return string(b)
}

// expect holds errors to those wanted, in order.
func expect(t *testing.T, want api.Errno, got ...api.Errno) {
	t.Helper()
	for i, e := range got {
		if e != want {
			t.Fatalf("call %d gives the error %d, want %d", i, e, want)
		}
	}
}

// fates is what a disk may come to, whatever is done to it: what each file has after starts that keep more and more of it, and what else there is to see. Two disks with the same short lists of pending changes have the same ones.
func fates(d *Disk) string {
	var all strings.Builder
	fmt.Fprintln(&all, d.On(), d.Steps())
	for f := range 4 {
		b, e := d.Read(f)
		fmt.Fprintf(&all, "%d: %q %d\n", f, b, e)
		for k := range 12 {
			for p := range 12 {
				c := d.Clone()
				keep := make([]int, 12)
				keep[f], keep[4+f], keep[8+f] = k, p, 64
				c.Boot(keep)
				b, _ := c.Read(f)
				fmt.Fprintf(&all, "%d %d %d: %q\n", f, k, p, b)
			}
		}
	}
	c := d.Clone()
	left := 0
	for left < 20 && c.Sync(0) == api.OK {
		left++
	}
	fmt.Fprintln(&all, left)
	return all.String()
}

// unchanged stops the test if the calls change anything.
func unchanged(t *testing.T, d *Disk, calls func()) {
	t.Helper()
	before := fates(d)
	calls()
	if fates(d) != before {
		t.Fatal("a call that may not change anything did")
	}
}

// used is a disk that has something durable and something pending in each file.
func used(t *testing.T) *Disk {
	t.Helper()
	d := New()
	for f := range 4 {
		name := string([]byte{'a' + byte(f)})
		expect(t, api.OK, d.Append(f, []byte(name+"12")), d.Sync(f), d.Append(f, []byte(name+"34")), d.Cut(f, 4), d.Append(f, []byte(name+"567")))
	}
	return d
}

// steps are one attempt of each kind of step, each of which succeeds if there is power.
func steps(d *Disk) []func() api.Errno {
	return []func() api.Errno{
		func() api.Errno { return d.Append(1, []byte("x")) },
		func() api.Errno { return d.Append(2, nil) },
		func() api.Errno { return d.Cut(1, 0) },
		func() api.Errno { return d.Sync(1) },
		func() api.Errno { return d.Sync(3) },
	}
}

// noFiles are numbers that no file has.
func noFiles() []int {
	return []int{4, 5, 8, 255, 256, 1 << 32, math.MaxInt, -1, -2, -4, -256, math.MinInt32, math.MinInt, math.MinInt + 1}
}

// P10.1 to P10.3: the chapter's examples.
func TestTheChaptersExamples(t *testing.T) {
	d := New()
	expect(t, api.OK, d.Append(0, []byte("ab")), d.Sync(0), d.Append(0, []byte("cd")))
	if got := read(t, d, 0); got != "abcd" {
		t.Errorf("the first example leads to %q", got)
	}
	d.Boot([]int{0, 0, 0, 0, 1})
	if got := read(t, d, 0); got != "abc" {
		t.Errorf("the second example leads to %q", got)
	}
	d.Fuse(1)
	expect(t, api.OK, d.Append(1, []byte("x")))
	if !d.On() {
		t.Error("the power is off ahead of the attempt")
	}
	expect(t, api.ErrPower, d.Append(1, []byte("y")))
	if d.On() {
		t.Error("the power is on behind the attempt")
	}
}

// P10.1: a new disk, each one its own.
func TestNewDisks(t *testing.T) {
	used(t)
	d := New()
	if !d.On() || d.Steps() != 0 {
		t.Errorf("a new disk: On %v, Steps %d", d.On(), d.Steps())
	}
	for f := range 4 {
		if got := read(t, d, f); got != "" {
			t.Errorf("file %d of a new disk has %q", f, got)
		}
	}
	d.Boot([]int{1, 2, 3, 4, 5, 6, 7, 8, 9, 10, 11, 12})
	for f := range 4 {
		if got := read(t, d, f); got != "" {
			t.Errorf("something was pending in file %d of a new disk: %q", f, got)
		}
	}
	d = New()
	for i := range 1000 {
		expect(t, api.OK, d.Append(i%4, []byte("z")))
	}
	if !d.On() || d.Steps() != 1000 {
		t.Errorf("after 1000 steps: On %v, Steps %d", d.On(), d.Steps())
	}
	if other := New(); read(t, other, 0) != "" || other.Steps() != 0 {
		t.Error("two new disks share what they have")
	}
}

// P10.1: what succeeds and changes a file, or makes it durable, counts, and nothing else does.
func TestWhatCountsAsAStep(t *testing.T) {
	d := New()
	want := 0
	for range 3 {
		for i, step := range steps(d) {
			expect(t, api.OK, step())
			if want++; d.Steps() != want {
				t.Fatalf("after step %d: Steps %d, want %d", i, d.Steps(), want)
			}
		}
	}
	expect(t, api.ErrArg, d.Append(4, nil), d.Append(-1, nil), d.Cut(4, 0), d.Cut(-1, 0), d.Cut(0, -1), d.Cut(0, 1), d.Sync(4), d.Sync(-1))
	expect(t, api.ErrLong, d.Append(0, make([]byte, 1<<20+1)))
	read(t, d, 0)
	d.Read(7)
	d.On()
	d.Fuse(3)
	d.Fuse(-1)
	d.Clone()
	d.Boot(nil)
	d.Fuse(0)
	for _, step := range steps(d) {
		expect(t, api.ErrPower, step())
	}
	if d.Steps() != want {
		t.Errorf("Steps is %d, want %d", d.Steps(), want)
	}
}

// P10.1, P10.2: a fuse permits so many steps, of whichever kind, and the next attempt, of whichever kind, switches the power off.
func TestFusePermitsSoManySteps(t *testing.T) {
	for n := range 12 {
		for last := range len(steps(nil)) {
			d := New()
			expect(t, api.OK, d.Append(1, []byte("ahead")))
			d.Fuse(n)
			for i := range n {
				expect(t, api.OK, steps(d)[i%len(steps(d))]())
			}
			if !d.On() || d.Steps() != n+1 {
				t.Fatalf("Fuse(%d): On %v, Steps %d ahead of the attempt", n, d.On(), d.Steps())
			}
			read(t, d, 1)
			expect(t, api.ErrPower, steps(d)[last]())
			if d.On() {
				t.Fatalf("Fuse(%d): the power is on behind the attempt %d", n, last)
			}
			for range 3 {
				for _, step := range steps(d) {
					expect(t, api.ErrPower, step())
				}
			}
			if d.Steps() != n+1 || d.On() {
				t.Fatalf("Fuse(%d): Steps %d, On %v behind the attempts", n, d.Steps(), d.On())
			}
		}
	}
}

// P10.1, P10.2: what is no attempt of a step does not use a fuse, nor does what is too long, as long as it permits a step.
func TestWhatLeavesAFuse(t *testing.T) {
	long := make([]byte, 1<<20+1)
	for _, n := range []int{1, 2, 5} {
		d := used(t)
		d.Fuse(n)
		unchanged(t, d, func() {
			expect(t, api.ErrArg, d.Append(4, nil), d.Append(-1, long), d.Cut(-1, 0), d.Cut(0, 9), d.Cut(0, -1), d.Sync(4))
			expect(t, api.ErrLong, d.Append(0, long))
			read(t, d, 0)
			d.Read(4)
			d.Steps()
			d.On()
			d.Clone().Sync(0)
		})
		for range n {
			expect(t, api.OK, d.Sync(0))
		}
		unchanged(t, d, func() {
			expect(t, api.ErrArg, d.Append(4, nil), d.Append(-1, long), d.Cut(-1, 0), d.Cut(0, 9), d.Cut(0, -1), d.Sync(4))
			read(t, d, 0)
			d.Read(4)
			d.Clone().Sync(0)
		})
		if !d.On() {
			t.Fatal("the power is off without an attempt")
		}
		expect(t, api.ErrPower, d.Sync(0))
	}
}

// P10.1: the last fuse holds, and counts anew; a negative one takes it out; a great one lasts.
func TestFusesOneBehindTheOther(t *testing.T) {
	d := New()
	d.Fuse(5)
	expect(t, api.OK, d.Sync(0), d.Sync(0))
	d.Fuse(2)
	expect(t, api.OK, d.Sync(0), d.Sync(0))
	d.Fuse(1)
	d.Fuse(3)
	expect(t, api.OK, d.Sync(0), d.Sync(0), d.Sync(0))
	if !d.On() {
		t.Error("the power is off ahead of the attempt")
	}
	for _, n := range []int{-1, -2, -3, math.MinInt, math.MinInt + 1} {
		d.Fuse(0)
		d.Fuse(n)
		for range 300 {
			expect(t, api.OK, d.Sync(0))
		}
	}
	for _, n := range []int{math.MaxInt, math.MaxInt - 1, 1 << 40, 1 << 32, 1 << 31} {
		d.Fuse(n)
		for range 300 {
			expect(t, api.OK, d.Sync(0))
		}
	}
	d.Fuse(0)
	expect(t, api.ErrPower, d.Sync(0))
}

// P10.1: no fuse, whatever it is, brings the power back: Boot does, without a fuse.
func TestFuseWithThePowerOff(t *testing.T) {
	for _, n := range []int{-1, math.MinInt, 0, 1, 2, 100, math.MaxInt} {
		d := New()
		d.Fuse(0)
		expect(t, api.ErrPower, d.Sync(0))
		d.Fuse(n)
		if d.On() {
			t.Fatalf("Fuse(%d) brings the power back", n)
		}
		for range 3 {
			for _, step := range steps(d) {
				expect(t, api.ErrPower, step())
			}
		}
		if _, e := d.Read(0); e != api.ErrPower {
			t.Fatalf("Fuse(%d) lets Read give the error %d", n, e)
		}
		d.Boot(nil)
		for range 100 {
			for _, step := range steps(d) {
				expect(t, api.OK, step())
			}
		}
	}
}

// P10.3: Boot takes out a fuse that has not blown, too.
func TestBootTakesTheFuseOut(t *testing.T) {
	for n := range 3 {
		d := New()
		d.Fuse(n)
		d.Boot(nil)
		for range 100 {
			expect(t, api.OK, d.Sync(0))
		}
	}
}

// P10.2: bytes come behind one another, in the file that is named and in no other; nil and none are an Append too.
func TestAppendsComeInOrder(t *testing.T) {
	d := New()
	var want [4]string
	s := source(1001)
	for i := range 400 {
		f := s.below(4)
		text := s.text(s.below(5))
		expect(t, api.OK, d.Append(f, []byte(text)))
		want[f] += text
		if i%50 == 7 {
			expect(t, api.OK, d.Append(f, nil), d.Append(f, []byte{}))
		}
		for f := range 4 {
			if got := read(t, d, f); got != want[f] {
				t.Fatalf("file %d has %q, want %q", f, got, want[f])
			}
		}
	}
}

// P10.2: an Append of nothing and a Cut that takes nothing are steps, and pending changes between others.
func TestChangesThatChangeNothing(t *testing.T) {
	p := newPair()
	check(t, p.append(0, ""), p.append(0, "ab"), p.append(0, ""), p.cut(0, 2), p.append(0, "cd"), p.cut(0, 4), p.append(0, ""))
	for k := range 10 {
		for part := range 4 {
			c := p.clone()
			check(t, c.boot([]int{k, 0, 0, 0, part}))
		}
	}
	if p.d.Steps() != 7 {
		t.Errorf("Steps is %d, want 7", p.d.Steps())
	}
	for _, nothing := range [][]byte{nil, {}} {
		d := New()
		expect(t, api.OK, d.Append(0, []byte("ab")), d.Append(0, nothing), d.Append(0, []byte("cd")))
		for k, want := range []string{"", "ab", "ab", "abcd", ""} {
			c := d.Clone()
			c.Boot([]int{k})
			if got := read(t, c, 0); got != want {
				t.Errorf("with Append of %#v, %d changes lead to %q, want %q", nothing, k, got, want)
			}
		}
	}
}

// P10.2: each number that no file has, by each call, with the power on and off.
func TestThereIsNoSuchFile(t *testing.T) {
	d := used(t)
	for range 2 {
		unchanged(t, d, func() {
			for _, f := range noFiles() {
				expect(t, api.ErrArg, d.Append(f, []byte("x")), d.Append(f, nil), d.Append(f, make([]byte, 1<<20+1)), d.Cut(f, 0), d.Cut(f, 1), d.Cut(f, -1), d.Sync(f))
				if b, e := d.Read(f); b != nil || e != api.ErrArg {
					t.Fatalf("Read(%d) = %q, %d", f, b, e)
				}
			}
		})
		d.Fuse(0)
		expect(t, api.ErrPower, d.Sync(0))
	}
}

// P10.2: without power there is ErrPower for what names a file, and nothing changes.
func TestCallsWithoutPower(t *testing.T) {
	d := used(t)
	d.Fuse(0)
	expect(t, api.ErrPower, d.Append(0, []byte("lost")))
	unchanged(t, d, func() {
		for f := range 4 {
			expect(t, api.ErrPower, d.Append(f, nil), d.Append(f, []byte("x")), d.Append(f, make([]byte, 1<<20+1)), d.Cut(f, 0), d.Cut(f, 8), d.Sync(f))
			expect(t, api.ErrArg, d.Cut(f, 9), d.Cut(f, -1), d.Cut(f, math.MaxInt), d.Cut(f, math.MinInt))
			if b, e := d.Read(f); b != nil || e != api.ErrPower {
				t.Fatalf("Read(%d) = %q, %d", f, b, e)
			}
		}
	})
}

// P10.2: an attempt that a fuse refuses leaves the files as they were, whichever it is, even if it is too long.
func TestAttemptsThatAFuseRefuses(t *testing.T) {
	for i, attempt := range []func(d *Disk) api.Errno{
		func(d *Disk) api.Errno { return d.Append(0, []byte("x")) },
		func(d *Disk) api.Errno { return d.Append(0, nil) },
		func(d *Disk) api.Errno { return d.Append(0, make([]byte, 1<<20+1)) },
		func(d *Disk) api.Errno { return d.Cut(0, 1) },
		func(d *Disk) api.Errno { return d.Cut(0, 8) },
		func(d *Disk) api.Errno { return d.Sync(0) },
	} {
		d := used(t)
		same := d.Clone()
		d.Fuse(0)
		expect(t, api.ErrPower, attempt(d))
		same.Fuse(0)
		expect(t, api.ErrPower, same.Sync(3))
		if d.On() || fates(d) != fates(same) {
			t.Errorf("the attempt %d does something", i)
		}
	}
}

// P10.2: a file takes 2^20 bytes and not one more, in one piece or in many, durable or not; the others take theirs.
func TestTheGreatestFile(t *testing.T) {
	s := source(1002)
	whole := s.text(1 << 20)
	for _, pieces := range [][]int{{1 << 20}, {1<<20 - 1, 1}, {1, 1<<20 - 1}, {1 << 19, 1 << 19}, {5, 1 << 19, 1<<19 - 5}} {
		for _, durable := range []bool{false, true} {
			d := New()
			at := 0
			for _, n := range pieces {
				expect(t, api.ErrLong, d.Append(2, make([]byte, 1<<20-at+1)), d.Append(2, make([]byte, 1<<21)))
				expect(t, api.OK, d.Append(2, []byte(whole[at:at+n])))
				if at += n; durable {
					expect(t, api.OK, d.Sync(2))
				}
			}
			before := d.Steps()
			expect(t, api.ErrLong, d.Append(2, []byte{0}), d.Append(2, []byte("ab")), d.Append(2, make([]byte, 1<<20)))
			if d.Steps() != before || !d.On() || read(t, d, 2) != whole {
				t.Errorf("pieces of %d bytes: a full file changes", pieces)
			}
			expect(t, api.OK, d.Append(2, nil), d.Append(1, make([]byte, 1<<20)), d.Append(3, []byte("x")))
		}
	}
}

// P10.2: what is too long is not pending either.
func TestWhatIsTooLongIsNotPending(t *testing.T) {
	d := New()
	expect(t, api.OK, d.Append(0, make([]byte, 1<<20-1)))
	expect(t, api.ErrLong, d.Append(0, []byte("ab")))
	d.Boot([]int{2})
	if got := len(read(t, d, 0)); got != 0 {
		t.Errorf("2 modulo 2 changes keeps %d bytes", got)
	}
}

// P10.2: it is the content that may not be greater, however much was cut off, or is durable still.
func TestRoomAfterACut(t *testing.T) {
	d := New()
	full := bytes.Repeat([]byte("f"), 1<<20)
	expect(t, api.OK, d.Append(0, full), d.Cut(0, 0), d.Append(0, full), d.Sync(0), d.Cut(0, 1<<20-3))
	expect(t, api.ErrLong, d.Append(0, []byte("1234")))
	expect(t, api.OK, d.Append(0, []byte("12")))
	expect(t, api.ErrLong, d.Append(0, []byte("34")))
	expect(t, api.OK, d.Append(0, []byte("3")))
	expect(t, api.ErrLong, d.Append(0, []byte("4")))
	if got, want := read(t, d, 0), string(full[3:])+"123"; got != want {
		t.Errorf("the file has %s", brief(got))
	}
	d.Boot([]int{1})
	expect(t, api.ErrLong, d.Append(0, []byte("1234")))
	expect(t, api.OK, d.Append(0, []byte("123")))
}

// P10.2: each size of each content, be it durable or pending; and what is no size of it.
func TestCutToEachSize(t *testing.T) {
	text := "the content of a file"
	for durable := range len(text) + 1 {
		for size := -3; size < len(text)+4; size++ {
			p := newPair()
			check(t, p.append(3, text[:durable]), p.sync(3), p.append(3, text[durable:]), p.cut(3, size), p.append(3, "END"), p.cut(3, size), p.sync(3), p.cut(3, size))
		}
	}
	p := newPair()
	check(t, p.append(0, "abc"), p.cut(0, math.MaxInt), p.cut(0, math.MinInt), p.cut(0, 1<<32), p.cut(0, 4), p.cut(0, 3), p.cut(0, 2), p.cut(0, 3), p.cut(0, 0), p.cut(0, 0), p.cut(0, 1))
}

// P10.2: Sync makes one file durable, whole, and no other; without anything pending it is a step all the same.
func TestSyncOfOneFile(t *testing.T) {
	for f := range 4 {
		d := used(t)
		expect(t, api.OK, d.Sync(f), d.Sync(f))
		d.Boot(nil)
		for other := range 4 {
			name := string([]byte{'a' + byte(other)})
			want := name + "12"
			if other == f {
				want = name + "12" + name + name + "567"
			}
			if got := read(t, d, other); got != want {
				t.Errorf("Sync(%d): file %d has %q after Boot, want %q", f, other, got, want)
			}
		}
		if d.Steps() != 22 {
			t.Errorf("Steps is %d, want 22", d.Steps())
		}
	}
}

// P10.2: Sync leaves nothing pending: a later start finds the later changes alone.
func TestSyncEndsWhatWasPending(t *testing.T) {
	d := New()
	expect(t, api.OK, d.Append(0, []byte("a")), d.Append(0, []byte("b")), d.Sync(0), d.Cut(0, 1), d.Append(0, []byte("cd")))
	for k, want := range []string{"ab", "a@", "acd", "ab", "a@", "acd"} {
		c := d.Clone()
		c.Boot([]int{k, 0, 0, 0, 1, 0, 0, 0, 'c' ^ '@'})
		if got := read(t, c, 0); got != want {
			t.Errorf("%d changes lead to %q, want %q", k, got, want)
		}
	}
}

// P10.3: each number of changes, of each part of the next one, by the numbers of each file alone.
func TestBootKeepsWhatItIsTold(t *testing.T) {
	for f := range 4 {
		for k := -9; k < 9; k++ {
			for part := -11; part < 11; part++ {
				for _, flip := range []int{0, 1, 128, 255, 256, 257, -1, -2, -256, -257, math.MaxInt, math.MinInt} {
					p := newPair()
					for other := range 4 {
						check(t, p.append(other, "12"), p.sync(other), p.append(other, "34"), p.cut(other, 1), p.append(other, ""), p.append(other, "56789"))
					}
					keep := make([]int, 12)
					keep[f], keep[4+f], keep[8+f] = k, part, flip
					check(t, p.boot(keep))
				}
			}
		}
	}
}

// P10.3: what the numbers of a start lead to, written down.
func TestBootWrittenDown(t *testing.T) {
	d := New()
	expect(t, api.OK, d.Append(1, []byte("12")), d.Sync(1), d.Append(1, []byte("abc")), d.Cut(1, 4), d.Append(1, []byte("ABC")))
	cases := []struct {
		keep []int
		want string
	}{
		{nil, "12"},
		{[]int{}, "12"},
		{[]int{3}, "12"},
		{[]int{3, 0}, "12"},
		{[]int{0, 1}, "12abc"},
		{[]int{0, 2}, "12ab"},
		{[]int{0, 3}, "12abABC"},
		{[]int{0, 4}, "12"},
		{[]int{0, 7}, "12abABC"},
		{[]int{0, -1}, "12"},
		{[]int{0, -2}, "12abc"},
		{[]int{0, -3}, "12ab"},
		{[]int{0, -4}, "12abABC"},
		{[]int{0, -5}, "12"},
		{[]int{0, math.MaxInt}, "12abABC"},
		{[]int{0, math.MinInt}, "12abABC"},
		{[]int{0, math.MaxInt - 1}, "12ab"},
		{[]int{0, math.MinInt + 1}, "12ab"},
		{[]int{0, 0, 0, 0, 0, 1}, "12a"},
		{[]int{0, 0, 0, 0, 0, 2}, "12ab"},
		{[]int{0, 0, 0, 0, 0, 3}, "12abc"},
		{[]int{0, 0, 0, 0, 0, 4}, "12"},
		{[]int{0, 0, 0, 0, 0, 5}, "12a"},
		{[]int{0, 0, 0, 0, 0, -3}, "12ab"},
		{[]int{0, 0, 0, 0, 0, -5}, "12"},
		{[]int{0, 0, 0, 0, 0, math.MaxInt}, "12abc"},
		{[]int{0, 0, 0, 0, 0, math.MinInt}, "12abc"},
		{[]int{0, 1, 0, 0, 0, 2}, "12abc"},
		{[]int{0, 3, 0, 0, 0, 2}, "12abABC"},
		{[]int{0, 2, 0, 0, 0, 2}, "12abAB"},
		{[]int{9, 2, 9, 9, 9, 2, 9, 9, 9}, "12abAB"},
		{[]int{9, 2, 9, 9, 9, 2, 9, 9, 9, 3, 9, 9}, "12abAA"},
		{[]int{9, 2, 9, 9, 9, 3, 9, 9, 9, 3}, "12abAB@"},
		{[]int{9, 2, 9, 9, 9, 4, 9, 9, 9, 3}, "12ab"},
		{[]int{9, 1, 9, 9, 9, 3, 9, 9, 9, 3}, "12abc"},
		{[]int{9, 3, 9, 9, 9, 3, 9, 9, 9, 3}, "12abABC"},
		{[]int{0, 0, 0, 0, 0, 1, 0, 0, 0, 0x40}, "12!"},
		{[]int{0, 0, 0, 0, 0, 1, 0, 0, 0, 0x140}, "12!"},
		{[]int{0, 0, 0, 0, 0, 1, 0, 0, 0, -0x41}, "12!"},
		{[]int{0, 0, 0, 0, 0, 1, 0, 0, 0, 255}, "12\x9e"},
		{[]int{0, 0, 0, 0, 0, 1, 0, 0, 0, -1}, "12a"},
		{[]int{0, 0, 0, 0, 0, 1, 0, 0, 0, -256}, "12\x9e"},
		{[]int{0, 0, 0, 0, 0, 1, 0, 0, 0, math.MinInt}, "12\x9e"},
		{[]int{0, 0, 0, 0, 0, 1, 0, 0, 0, math.MaxInt}, "12\x9e"},
		{[]int{0, 0, 0, 0, 0, 1, 0, 0, 0, 0, 7, 7, 7, 7, 7}, "12a"},
	}
	for _, c := range cases {
		again := d.Clone()
		again.Boot(c.keep)
		if got := read(t, again, 1); got != c.want {
			t.Errorf("Boot(%d) leads to %q, want %q", c.keep, got, c.want)
		}
	}
}

// P10.3: each file goes by its own numbers, all in one start.
func TestBootOfAllFilesAtOnce(t *testing.T) {
	d := used(t)
	d.Boot([]int{0, 1, 2, -4, 1, 2, 3, 1, 2, 0, 4, 8})
	for f, want := range []string{"a12c", "b12b34", "c12cc52", "d12dd567"} {
		if got := read(t, d, f); got != want {
			t.Errorf("file %d has %q, want %q", f, got, want)
		}
	}
}

// P10.3: a start of a great file, up to the last byte.
func TestBootOfAGreatFile(t *testing.T) {
	s := source(1003)
	first, second := s.text(1<<19), s.text(1<<19)
	p := newPair()
	check(t, p.append(0, first), p.append(0, second))
	for _, part := range []int{0, 1, 1<<19 - 1, 1 << 19, 1<<19 + 1, 1<<19 + 2, -1 << 19, math.MaxInt} {
		for k := range 3 {
			c := p.clone()
			check(t, c.boot([]int{k, 0, 0, 0, part, 0, 0, 0, 85}))
		}
	}
}

// P10.3: after a start everything is durable, whatever the next starts are told, and Steps counts on.
func TestBootMakesDurable(t *testing.T) {
	s := source(1004)
	for range 300 {
		d := used(t)
		d.Boot(s.keep())
		var want [4]string
		for f := range want {
			want[f] = read(t, d, f)
		}
		for range 5 {
			d.Boot(s.keep())
			for f := range want {
				if got := read(t, d, f); got != want[f] {
					t.Fatalf("file %d has %q after a second start, want %q", f, got, want[f])
				}
			}
		}
		if d.Steps() != 20 {
			t.Fatalf("Steps is %d, want 20", d.Steps())
		}
		expect(t, api.OK, d.Append(0, []byte("x")))
		if d.Steps() != 21 {
			t.Fatalf("Steps is %d, want 21", d.Steps())
		}
		d.Boot(nil)
		if got := read(t, d, 0); got != want[0] {
			t.Fatalf("a change after a start is durable: %q", got)
		}
	}
}

// P10.3: a disk whose power is on may be started too, and one that is off comes back with all that was pending.
func TestBootWithThePowerOnOrOff(t *testing.T) {
	s := source(1005)
	for range 300 {
		keep := s.keep()
		on := used(t)
		off := on.Clone()
		off.Fuse(0)
		expect(t, api.ErrPower, off.Append(0, []byte("lost")))
		on.Boot(keep)
		off.Boot(keep)
		if !off.On() || fates(on) != fates(off) {
			t.Fatalf("Boot(%d) leads elsewhere with the power off", keep)
		}
	}
}

// P10.3: a clone has all that a disk has: what is durable and pending, the steps, the power and the fuse.
func TestCloneHasItAll(t *testing.T) {
	d := used(t)
	same := func() {
		t.Helper()
		c := d.Clone()
		if c == d || fates(c) != fates(d) {
			t.Fatal("a clone differs")
		}
		if again := c.Clone(); fates(again) != fates(d) {
			t.Fatal("a clone of a clone differs")
		}
	}
	same()
	for n := range 4 {
		d.Fuse(n)
		same()
	}
	d.Fuse(0)
	d.Sync(0)
	same()
	d.Fuse(3)
	same()
	d.Boot(nil)
	same()
}

// P10.3: whatever is done to a disk is not seen in its clone, nor the other way.
func TestClonesGoTheirOwnWay(t *testing.T) {
	for i, change := range []func(d *Disk){
		func(d *Disk) { d.Append(0, []byte("x")) },
		func(d *Disk) { d.Append(0, []byte("x")); d.Append(0, []byte("y")); d.Cut(0, 2) },
		func(d *Disk) { d.Cut(0, 0); d.Append(0, []byte("over")); d.Sync(0) },
		func(d *Disk) { d.Cut(0, 1) },
		func(d *Disk) { d.Sync(0) },
		func(d *Disk) { d.Sync(0); d.Append(0, []byte("x")); d.Sync(0) },
		func(d *Disk) { d.Fuse(2) },
		func(d *Disk) { d.Fuse(0); d.Sync(0) },
		func(d *Disk) { d.Boot(nil) },
		func(d *Disk) { d.Boot([]int{0, 0, 0, 0, 2, 0, 0, 0, 255}) },
		func(d *Disk) { d.Boot([]int{2, 0, 0, 0, 3, 0, 0, 0, 255}) },
		func(d *Disk) { d.Boot([]int{1}); d.Cut(0, 0); d.Append(0, []byte("over")); d.Boot([]int{2}) },
	} {
		d := used(t)
		before := fates(d)
		c := d.Clone()
		change(d)
		if fates(c) != before {
			t.Errorf("the change %d of a disk is seen in its clone", i)
		}
		after := fates(d)
		change(c)
		if fates(d) != after || fates(c) != after {
			t.Errorf("the change %d of a clone is seen in the disk, or does something else", i)
		}
	}
}

// P10.3: a disk and its clone append behind the same changes, without writing over one another's.
func TestClonesAppendBehindTheSame(t *testing.T) {
	for n := range 40 {
		d := New()
		for range n {
			expect(t, api.OK, d.Append(0, []byte("abc")))
		}
		if n%2 == 0 {
			expect(t, api.OK, d.Sync(0))
		}
		c := d.Clone()
		expect(t, api.OK, d.Append(0, []byte("disk")), c.Append(0, []byte("clone")))
		if n%3 == 0 {
			expect(t, api.OK, d.Sync(0), c.Sync(0))
		}
		front := strings.Repeat("abc", n)
		if got := read(t, d, 0); got != front+"disk" {
			t.Errorf("the disk has %q", got)
		}
		if got := read(t, c, 0); got != front+"clone" {
			t.Errorf("the clone has %q", got)
		}
	}
}

// Rule R7: what is appended is neither kept nor written to, not even behind its end.
func TestAppendedBytesStayTheCallers(t *testing.T) {
	for _, durable := range []bool{false, true} {
		d := New()
		b := []byte("abcdefgh")
		expect(t, api.OK, d.Append(0, b[:3]))
		if durable {
			expect(t, api.OK, d.Sync(0))
		}
		expect(t, api.OK, d.Append(0, []byte("XYZ")))
		if string(b) != "abcdefgh" {
			t.Errorf("the caller's bytes become %q", b)
		}
		copy(b, "12345678")
		if got := read(t, d, 0); got != "abcXYZ" {
			t.Errorf("the file has %q", got)
		}
		d.Boot([]int{0, 0, 0, 0, 2, 0, 0, 0, 255})
		if string(b) != "12345678" {
			t.Errorf("the caller's bytes become %q by a start", b)
		}
	}
	d := New()
	b := []byte("abc")
	expect(t, api.OK, d.Append(0, b), d.Append(1, b))
	d.Boot([]int{0, 1, 0, 0, 2, 0, 0, 0, 1})
	if string(b) != "abc" || read(t, d, 0) != "ac" || read(t, d, 1) != "abc" {
		t.Errorf("one start leads to %q, %q, %q", b, read(t, d, 0), read(t, d, 1))
	}
}

// Rule R7: what is read belongs to the caller, behind its end too.
func TestReadBytesAreTheCallers(t *testing.T) {
	for _, durable := range []bool{false, true} {
		d := New()
		expect(t, api.OK, d.Append(0, []byte("abc")), d.Append(0, []byte("def")))
		if durable {
			expect(t, api.OK, d.Sync(0))
			d.Boot(nil)
		}
		first, _ := d.Read(0)
		second, _ := d.Read(0)
		for i := range first {
			first[i] = 'x'
		}
		_ = append(first, "behind"...)
		expect(t, api.OK, d.Append(0, []byte("ghi")))
		if string(second) != "abcdef" || read(t, d, 0) != "abcdefghi" {
			t.Errorf("what was read leads to %q, and to %q in the file", second, read(t, d, 0))
		}
		third, _ := d.Read(0)
		expect(t, api.OK, d.Sync(0), d.Cut(0, 1), d.Append(0, []byte("over")), d.Sync(0))
		if string(third) != "abcdefghi" || string(first) != "xxxxxx" {
			t.Errorf("what was read becomes %q and %q", third, first)
		}
	}
}

// Rule R7: what Boot is told stays as it is, and is not kept.
func TestKeepStaysTheCallers(t *testing.T) {
	d := used(t)
	all := []int{-1, 2, -3, 4, -5, 6, -7, 8, -9, 10, -11, 12, -13, 14}
	keep := slices.Clone(all)
	d.Boot(keep[:9])
	if !slices.Equal(keep, all) {
		t.Errorf("what Boot was told becomes %d", keep)
	}
	before := fates(d)
	for i := range keep {
		keep[i] = 99
	}
	if fates(d) != before {
		t.Error("what Boot was told is kept")
	}
}

// P10.4: what a file is after a start hangs on nothing but what is durable, what is pending, and its own numbers.
func TestBootHangsOnNothingElse(t *testing.T) {
	s := source(1006)
	for range 200 {
		// One disk becomes what it is by one way, another by a longer one.
		short, long := New(), New()
		durable, cut, text := s.text(s.below(9)), s.below(3), s.text(1+s.below(9))
		expect(t, api.OK, long.Append(0, []byte("gone")), long.Sync(0), long.Cut(0, 0), long.Append(0, []byte(durable[:len(durable)/2])), long.Sync(0))
		long.Boot(s.keep())
		expect(t, api.OK, long.Append(1, []byte("elsewhere")), long.Append(0, []byte(durable[len(durable)/2:])), long.Sync(0))
		expect(t, api.OK, short.Append(0, []byte(durable)), short.Sync(0))
		for _, d := range []*Disk{short, long} {
			expect(t, api.OK, d.Append(0, []byte(text)), d.Cut(0, min(cut, len(durable))), d.Append(0, []byte(text)))
		}
		long.Fuse(s.below(2))
		long.Sync(2)
		keep := make([]int, 12)
		keep[0], keep[4], keep[8] = s.below(50), s.below(50), s.below(512)
		short.Boot(keep)
		for _, other := range []int{1, 2, 3, 5, 6, 7, 9, 10, 11} {
			keep[other] = s.below(50)
		}
		long.Boot(keep)
		if got, want := read(t, long, 0), read(t, short, 0); got != want {
			t.Fatalf("Boot(%d) leads to %q, want %q", keep, got, want)
		}
	}
}

// P10.4: without pending changes no start changes anything.
func TestBootWithNothingPending(t *testing.T) {
	s := source(1007)
	p := newPair()
	for f := range 4 {
		check(t, p.append(f, s.text(30+f)), p.cut(f, 20+f), p.sync(f))
	}
	for range 500 {
		check(t, p.boot(s.keep()))
	}
	if got := len(read(t, p.d, 3)); got != 23 {
		t.Errorf("the file 3 has %d bytes, want 23", got)
	}
}

// P10.1 to P10.4: each short sequence of changes of a file, and each start after it.
func TestEachShortSequence(t *testing.T) {
	do := []func(p pair) error{
		func(p pair) error { return p.append(2, "a") },
		func(p pair) error { return p.append(2, "bcd") },
		func(p pair) error { return p.append(2, "") },
		func(p pair) error { return p.cut(2, 0) },
		func(p pair) error { return p.cut(2, 2) },
		func(p pair) error { return p.sync(2) },
		func(p pair) error { return p.fuse(1) },
	}
	var extend func(p pair, depth int)
	extend = func(p pair, depth int) {
		for k := range 6 {
			for part := range 5 {
				c := p.clone()
				check(t, c.boot([]int{0, 0, k, 0, 0, 0, part, 0, 0, 0, 32}))
			}
		}
		if depth == 0 {
			return
		}
		for _, step := range do {
			c := p.clone()
			check(t, step(c))
			extend(c, depth-1)
		}
	}
	extend(newPair(), 5)
}

// P10.1 to P10.4: long ways of several disks, that are cloned from one another, by the wording.
func TestLongWays(t *testing.T) {
	s := source(1008)
	for range 150 {
		pairs := []pair{newPair(), newPair(), newPair()}
		for range 150 {
			p := pairs[s.below(len(pairs))]
			f := s.below(4)
			switch s.below(16) {
			case 0:
				check(t, p.boot(s.keep()))
			case 1:
				pairs[s.below(len(pairs))] = p.clone()
			case 2:
				check(t, p.fuse(s.below(12)-2))
			case 3, 4:
				check(t, p.sync(f))
			case 5, 6, 7, 8:
				content := len(p.w.files[f].content())
				check(t, p.cut(f, s.below(content+2)-s.below(20)/19))
			case 9:
				check(t, p.append(s.below(12)-4, s.text(3)), p.cut(s.below(12)-4, 0), p.sync(s.below(12)-4))
			default:
				check(t, p.append(f, s.text(s.below(10))))
			}
			for _, other := range pairs {
				check(t, other.differ("something"))
			}
		}
		for _, p := range pairs {
			for range 20 {
				c := p.clone()
				check(t, c.boot(s.keep()))
			}
		}
	}
}

// Rule R1: many changes that are not durable, and many that are, in a reasonable time.
func TestManyChanges(t *testing.T) {
	d := New()
	for range 1 << 17 {
		expect(t, api.OK, d.Append(0, []byte("12345678")))
	}
	expect(t, api.ErrLong, d.Append(0, []byte("9")))
	for size := 1<<20 - 1; size >= 1<<19; size -= 3 {
		expect(t, api.OK, d.Cut(0, size))
	}
	c := d.Clone()
	c.Boot([]int{1 << 16})
	if got := len(read(t, c, 0)); got != 1<<19 {
		t.Errorf("2^16 changes of 8 bytes lead to %d bytes", got)
	}
	for range 1 << 17 {
		expect(t, api.OK, d.Append(1, []byte("12345678")), d.Sync(1))
	}
	d.Boot(nil)
	if got := len(read(t, d, 1)); got != 1<<20 {
		t.Errorf("2^17 durable changes of 8 bytes lead to %d bytes", got)
	}
}
