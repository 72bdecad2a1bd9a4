package pack

import (
	"bytes"
	"encoding/hex"
	"math"
	"math/big"
	"slices"
	"strings"
	"testing"

	"strongroom/api"
)

func bytesOf(t *testing.T, digits string) []byte {
	t.Helper()
	b, err := hex.DecodeString(strings.ReplaceAll(digits, " ", ""))
	if err != nil {
		t.Fatalf("%q is not in hexadecimal", digits)
	}
	return b
}

// source gives bytes without a pattern, the same ones in each run.
type source uint32

func (s *source) next() byte {
	*s = *s*1664525 + 1013904223
	return byte(*s >> 24)
}

func (s *source) bytes(length int) []byte {
	b := make([]byte, length)
	for i := range b {
		b[i] = s.next()
	}
	return b
}

// number is a number of any number of digits.
func (s *source) number() int {
	digits := s.bytes(int(s.next()) % 9)
	n := 0
	for _, d := range digits {
		n = n<<8 | int(d)
	}
	return n & math.MaxInt
}

func (s *source) list(length int) []int {
	l := make([]int, length)
	for i := range l {
		l[i] = s.number()
	}
	return l
}

// numberByWording is the encoding of a number as the chapter words it.
func numberByWording(n int) []byte {
	digits := big.NewInt(int64(n)).Bytes()
	return append([]byte{byte(len(digits))}, digits...)
}

func textByWording(text []byte) []byte {
	return append(numberByWording(len(text)), text...)
}

func listByWording(l []int) []byte {
	b := numberByWording(len(l))
	for _, n := range l {
		b = append(b, numberByWording(n)...)
	}
	return b
}

// taken is what a decoding answers, to be compared as a whole.
type taken struct {
	text, rest string
	l          string
	e          api.Errno
}

func listText(l []int) string {
	b := &strings.Builder{}
	for _, n := range l {
		b.WriteString(big.NewInt(int64(n)).String() + " ")
	}
	return b.String()
}

func takeByWording(b []byte) (n int, rest []byte, e api.Errno) {
	if len(b) == 0 {
		return 0, nil, 3
	}
	if b[0] > 8 {
		return 0, nil, 80
	}
	count := int(b[0])
	if len(b[1:]) < count {
		return 0, nil, 3
	}
	number := new(big.Int).SetBytes(b[1 : 1+count])
	greatest := new(big.Int).SetUint64(1<<63 - 1)
	if len(number.Bytes()) != count || number.Cmp(greatest) > 0 {
		return 0, nil, 80
	}
	return int(number.Int64()), b[1+count:], 0
}

func takeTextByWording(b []byte, most int) taken {
	length, b, e := takeByWording(b)
	switch {
	case e != 0:
		return taken{e: e}
	case length > most:
		return taken{e: 2}
	case len(b) < length:
		return taken{e: 3}
	}
	return taken{text: string(b[:length]), rest: string(b[length:])}
}

func takeListByWording(b []byte, most int) taken {
	length, b, e := takeByWording(b)
	if e != 0 {
		return taken{e: e}
	}
	if length > most {
		return taken{e: 2}
	}
	var l []int
	for i := 0; i < length; i++ {
		var n int
		if n, b, e = takeByWording(b); e != 0 {
			return taken{e: e}
		}
		l = append(l, n)
	}
	return taken{l: listText(l), rest: string(b)}
}

// checkTake holds Take to the wording.
func checkTake(t *testing.T, b []byte) {
	t.Helper()
	n, rest, e := Take(b)
	wantN, wantRest, want := takeByWording(b)
	if n != wantN || !bytes.Equal(rest, wantRest) || e != want {
		t.Fatalf("Take(%x) = %d, %x, %d, want %d, %x, %d", b, n, rest, e, wantN, wantRest, want)
	}
}

// checkTakeText holds TakeText to the wording.
func checkTakeText(t *testing.T, b []byte, most int) {
	t.Helper()
	text, rest, e := TakeText(b, most)
	got := taken{text: string(text), rest: string(rest), e: e}
	if want := takeTextByWording(b, most); got != want {
		t.Fatalf("TakeText(%x, %d) = %x, %x, %d, want %x, %x, %d", b, most, text, rest, e, want.text, want.rest, want.e)
	}
}

// checkTakeList holds TakeList to the wording.
func checkTakeList(t *testing.T, b []byte, most int) {
	t.Helper()
	l, rest, e := TakeList(b, most)
	got := taken{l: listText(l), rest: string(rest), e: e}
	if want := takeListByWording(b, most); got != want {
		t.Fatalf("TakeList(%x, %d) = %d, %x, %d, want %s, %x, %d", b, most, l, rest, e, want.l, want.rest, want.e)
	}
}

// put, putText and putList are the calls where they have to succeed.
func put(t *testing.T, b []byte, n int) []byte {
	t.Helper()
	packed, e := Put(b, n)
	if e != api.OK {
		t.Fatalf("Put(%x, %d) gives the error %d", b, n, e)
	}
	return packed
}

func putText(t *testing.T, b, text []byte) []byte {
	t.Helper()
	packed, e := PutText(b, text)
	if e != api.OK {
		t.Fatalf("PutText of %d bytes gives the error %d", len(text), e)
	}
	return packed
}

func putList(t *testing.T, b []byte, l []int) []byte {
	t.Helper()
	packed, e := PutList(b, l)
	if e != api.OK {
		t.Fatalf("PutList of %d elements gives the error %d", len(l), e)
	}
	return packed
}

// chosenNumbers are the numbers about each power of two, the small ones, and some of each length.
func chosenNumbers() []int {
	numbers := []int{math.MaxInt}
	for n := range 1000 {
		numbers = append(numbers, n)
	}
	for power := range 63 {
		numbers = append(numbers, 1<<power-1, 1<<power, 1<<power+1, math.MaxInt-1<<power)
	}
	s := source(1)
	return append(numbers, s.list(3000)...)
}

func chosenNegatives() []int {
	return []int{-1, -2, -127, -128, -129, -255, -256, -257, -1 << 31, -1<<31 - 1, -1 << 40, math.MinInt + 1, math.MinInt}
}

// chosenMosts are the limits far from everything.
func chosenMosts() []int {
	return []int{math.MinInt, -1, 0, 1, 2, 7, api.MaxText - 1, api.MaxText, api.MaxText + 1, 1 << 40, math.MaxInt - 1, math.MaxInt}
}

// chosenBytes are the bytes that mean something at the front of a number or inside it, and one that doesn't.
func chosenBytes() []byte {
	return []byte{0, 1, 2, 3, 7, 8, 9, 0x7f, 0x80, 0xff}
}

// eachString goes through the strings of up to most of the letters, each once.
func eachString(letters []byte, most int, see func(b []byte)) {
	var extend func(b []byte)
	extend = func(b []byte) {
		see(slices.Clone(b))
		if len(b) == most {
			return
		}
		for _, letter := range letters {
			extend(append(slices.Clone(b), letter))
		}
	}
	extend(nil)
}

func allBytes() []byte {
	letters := make([]byte, 256)
	for i := range letters {
		letters[i] = byte(i)
	}
	return letters
}

// P8.1 to P8.3: the chapter's examples of encoding.
func TestEncodingsOfTheDocument(t *testing.T) {
	for digits, n := range map[string]int{"00": 0, "01 ff": 255, "02 01 00": 256} {
		if got, want := put(t, nil, n), bytesOf(t, digits); !bytes.Equal(got, want) {
			t.Errorf("Put(empty, %d) = %x, want %x", n, got, want)
		}
	}
	if got, e := Put(nil, -1); got != nil || e != api.ErrArg {
		t.Errorf("Put(empty, -1) = %x, %d, want ErrArg", got, e)
	}
	if got, want := putText(t, nil, []byte("ab")), bytesOf(t, "01 02 61 62"); !bytes.Equal(got, want) {
		t.Errorf(`PutText(empty, "ab") = %x, want %x`, got, want)
	}
	if got, want := putList(t, nil, []int{0, 5}), bytesOf(t, "01 02 00 01 05"); !bytes.Equal(got, want) {
		t.Errorf("PutList(empty, {0, 5}) = %x, want %x", got, want)
	}
}

// P8.1, P8.2: the chapter's examples of decoding.
func TestDecodingsOfTheDocument(t *testing.T) {
	if n, rest, e := Take(bytesOf(t, "02 01 00 61")); n != 256 || string(rest) != "a" || e != api.OK {
		t.Errorf("Take(02 01 00 61) = %d, %x, %d", n, rest, e)
	}
	for digits, want := range map[string]api.Errno{"01 00": api.ErrCode, "09": api.ErrCode, "02 01": api.ErrShort} {
		if n, rest, e := Take(bytesOf(t, digits)); n != 0 || rest != nil || e != want {
			t.Errorf("Take(%s) = %d, %x, %d, want the error %d", digits, n, rest, e, want)
		}
	}
	if text, rest, e := TakeText(bytesOf(t, "01 02 61"), 9); text != nil || rest != nil || e != api.ErrShort {
		t.Errorf("TakeText(01 02 61, 9) = %x, %x, %d, want ErrShort", text, rest, e)
	}
}

// P8.1: the least and the greatest number of each length, written down.
func TestNumbersOfEachLength(t *testing.T) {
	cases := []struct {
		n      int
		digits string
	}{
		{0, "00"},
		{1, "01 01"}, {255, "01 ff"},
		{256, "02 01 00"}, {65535, "02 ff ff"},
		{65536, "03 01 00 00"}, {16777215, "03 ff ff ff"},
		{16777216, "04 01 00 00 00"}, {4294967295, "04 ff ff ff ff"},
		{4294967296, "05 01 00 00 00 00"}, {1099511627775, "05 ff ff ff ff ff"},
		{1099511627776, "06 01 00 00 00 00 00"}, {281474976710655, "06 ff ff ff ff ff ff"},
		{281474976710656, "07 01 00 00 00 00 00 00"}, {72057594037927935, "07 ff ff ff ff ff ff ff"},
		{72057594037927936, "08 01 00 00 00 00 00 00 00"}, {9223372036854775807, "08 7f ff ff ff ff ff ff ff"},
		{0x0102030405060708, "08 01 02 03 04 05 06 07 08"},
	}
	for _, c := range cases {
		want := bytesOf(t, c.digits)
		if got := put(t, nil, c.n); !bytes.Equal(got, want) {
			t.Errorf("Put(empty, %d) = %x, want %s", c.n, got, c.digits)
		}
		if n, rest, e := Take(want); n != c.n || len(rest) != 0 || e != api.OK {
			t.Errorf("Take(%s) = %d, %x, %d, want %d", c.digits, n, rest, e, c.n)
		}
	}
}

// P8.1: behind whatever there is already, which stays as it is.
func TestPutFollowsItsWording(t *testing.T) {
	s := source(2)
	for i, n := range chosenNumbers() {
		front := s.bytes(i % 40)
		want := append(slices.Clone(front), numberByWording(n)...)
		if got := put(t, front, n); !bytes.Equal(got, want) {
			t.Fatalf("Put(%x, %d) = %x, want %x", front, n, got, want)
		}
	}
	for _, length := range []int{api.MaxText, api.MaxText + 1, 1 << 20} {
		front := s.bytes(length)
		if got := put(t, front, 256); !bytes.Equal(got, append(slices.Clone(front), 2, 1, 0)) {
			t.Errorf("behind %d bytes 256 is not encoded as elsewhere", length)
		}
	}
}

// P8.1: a negative number has no encoding.
func TestPutOfNegatives(t *testing.T) {
	for _, n := range chosenNegatives() {
		for _, front := range [][]byte{nil, {}, []byte("front")} {
			if got, e := Put(front, n); got != nil || e != api.ErrArg {
				t.Errorf("Put(%x, %d) = %x, %d, want ErrArg", front, n, got, e)
			}
		}
	}
}

// failTake, failTakeText and failTakeList ask for the error, and for nothing beside it.
func failTake(t *testing.T, b []byte, want api.Errno) {
	t.Helper()
	if n, rest, e := Take(b); n != 0 || rest != nil || e != want {
		t.Errorf("Take(%x) = %d, %x, %d, want the error %d", b, n, rest, e, want)
	}
}

// P8.1: nothing, nil or not, is too short.
func TestTakeOfNothing(t *testing.T) {
	failTake(t, nil, api.ErrShort)
	failTake(t, []byte{}, api.ErrShort)
	failTake(t, []byte("behind")[:0], api.ErrShort)
}

// P8.1: a first byte above 8 is wrong, whether enough bytes follow or not.
func TestTakeOfTooManyDigits(t *testing.T) {
	for first := 9; first < 256; first++ {
		for _, length := range []int{0, 1, 7, 8, 9, first - 1, first, first + 1, 300} {
			failTake(t, append([]byte{byte(first)}, bytes.Repeat([]byte{1}, length)...), api.ErrCode)
			failTake(t, append([]byte{byte(first)}, make([]byte, length)...), api.ErrCode)
		}
	}
}

// P8.1: too few bytes are too few ahead of everything that is wrong with them.
func TestTakeOfTooFewDigits(t *testing.T) {
	for first := 1; first <= 8; first++ {
		for length := range first {
			for _, filling := range []byte{0, 1, 0x7f, 0x80, 0xff} {
				failTake(t, append([]byte{byte(first)}, bytes.Repeat([]byte{filling}, length)...), api.ErrShort)
			}
		}
	}
}

// P8.1: a zero byte at the front, whatever is behind it.
func TestTakeOfLeadingZeros(t *testing.T) {
	for count := 1; count <= 8; count++ {
		for _, filling := range []byte{0, 1, 0x7f, 0x80, 0xff} {
			digits := bytes.Repeat([]byte{filling}, count)
			digits[0] = 0
			for _, behind := range []string{"", "\x00", "\x01", "behind it all"} {
				failTake(t, append(append([]byte{byte(count)}, digits...), behind...), api.ErrCode)
			}
		}
	}
}

// P8.1: no number from 2^63 on.
func TestTakeOfTooGreatNumbers(t *testing.T) {
	for first := 0x80; first < 0x100; first++ {
		for _, filling := range []byte{0, 1, 0x7f, 0x80, 0xff} {
			b := append([]byte{8, byte(first)}, bytes.Repeat([]byte{filling}, 7)...)
			failTake(t, b, api.ErrCode)
			failTake(t, append(b, "behind"...), api.ErrCode)
			b[1] &= 0x7f
			checkTake(t, b)
		}
	}
}

// P8.1: every string of up to two bytes, and all of up to five or of nine and more of those that mean something.
func TestTakeFollowsItsWording(t *testing.T) {
	check := func(b []byte) { checkTake(t, b) }
	eachString(allBytes(), 2, check)
	eachString(chosenBytes(), 5, check)
	s := source(3)
	for range 20000 {
		count := s.next() % 10
		b := append([]byte{count}, s.bytes(int(s.next())%14)...)
		if len(b) > 1 && s.next()%2 == 0 {
			b[1] = chosenBytes()[int(s.next())%10]
		}
		checkTake(t, b)
	}
}

// P8.1, P8.4: a number is taken from ahead of any bytes, and they are left whole.
func TestTakeLeavesTheRest(t *testing.T) {
	s := source(4)
	for i, n := range chosenNumbers() {
		for _, behind := range [][]byte{nil, {0}, {8}, {255}, s.bytes(i % 50), numberByWording(n)} {
			got, rest, e := Take(append(numberByWording(n), behind...))
			if got != n || !bytes.Equal(rest, behind) || e != api.OK {
				t.Fatalf("%d ahead of %x is taken as %d, %x, %d", n, behind, got, rest, e)
			}
		}
	}
}

// P8.2: each length that may be, behind whatever there is.
func TestPutTextFollowsItsWording(t *testing.T) {
	s := source(5)
	for length := range api.MaxText + 1 {
		text, front := s.bytes(length), s.bytes(length%30)
		want := append(slices.Clone(front), textByWording(text)...)
		if got := putText(t, front, text); !bytes.Equal(got, want) {
			t.Fatalf("a text of %d bytes behind %d others: %x, want %x", length, len(front), got, want)
		}
	}
	long := s.bytes(1 << 20)
	if got := putText(t, long, []byte("ab")); !bytes.Equal(got, append(slices.Clone(long), 1, 2, 'a', 'b')) {
		t.Error("behind 2^20 bytes a text is not encoded as elsewhere")
	}
	for _, text := range [][]byte{nil, {}} {
		if got := putText(t, []byte("front"), text); string(got) != "front\x00" {
			t.Errorf("PutText of %#v gives %q", text, got)
		}
	}
}

// P8.2: no text of more than 4096 bytes; what is ahead of it doesn't count.
func TestPutTextOfLongTexts(t *testing.T) {
	for _, length := range []int{4097, 4098, 8192, 65536, 1 << 20} {
		for _, front := range [][]byte{nil, []byte("front"), make([]byte, 5000)} {
			if got, e := PutText(front, make([]byte, length)); got != nil || e != api.ErrLong {
				t.Errorf("PutText of %d bytes: %d bytes, error %d, want ErrLong", length, len(got), e)
			}
		}
	}
}

// P8.2: each length about the limit and about what follows.
func TestTakeTextFollowsItsWording(t *testing.T) {
	s := source(6)
	for length := range 40 {
		whole := append(textByWording(s.bytes(length)), s.bytes(5)...)
		for cut := range len(whole) + 1 {
			for most := -1; most < 43; most++ {
				checkTakeText(t, whole[:cut], most)
			}
		}
	}
	for _, most := range chosenMosts() {
		for _, length := range []int{0, 1, 2, 3, 255, 256, 257, 4095, 4096, 4097, 65536} {
			whole := append(textByWording(s.bytes(length)), s.bytes(3)...)
			for _, missing := range []int{0, 1, 2, 3, 4} {
				checkTakeText(t, whole[:max(0, len(whole)-missing)], most)
			}
		}
	}
}

// P8.2: every string of up to two bytes, and all of up to four of those that mean something.
func TestTakeTextOfAnyBytes(t *testing.T) {
	for _, most := range []int{-1, 0, 1, 2, 3, 300, math.MaxInt} {
		check := func(b []byte) { checkTakeText(t, b, most) }
		eachString(allBytes(), 2, check)
		eachString(chosenBytes(), 4, check)
	}
}

func failTakeText(t *testing.T, b []byte, most int, want api.Errno) {
	t.Helper()
	if text, rest, e := TakeText(b, most); text != nil || rest != nil || e != want {
		t.Errorf("TakeText(%x, %d) = %x, %x, %d, want the error %d", b, most, text, rest, e, want)
	}
}

func failTakeList(t *testing.T, b []byte, most int, want api.Errno) {
	t.Helper()
	if l, rest, e := TakeList(b, most); l != nil || rest != nil || e != want {
		t.Errorf("TakeList(%x, %d) = %d, %x, %d, want the error %d", b, most, l, rest, e, want)
	}
}

// P8.2, P8.3: what is wrong with the length comes first, then that it is too great, whatever follows or is missing.
func TestWrongLengths(t *testing.T) {
	for _, most := range chosenMosts() {
		for digits, want := range map[string]api.Errno{
			"": api.ErrShort, "01": api.ErrShort, "08 01": api.ErrShort, "02 00": api.ErrShort,
			"09": api.ErrCode, "ff 01": api.ErrCode, "01 00": api.ErrCode, "02 00 01 61": api.ErrCode,
			"08 80 00 00 00 00 00 00 00": api.ErrCode, "08 ff ff ff ff ff ff ff ff 00 00": api.ErrCode,
		} {
			failTakeText(t, bytesOf(t, digits), most, want)
			failTakeList(t, bytesOf(t, digits), most, want)
		}
	}
	for most := -3; most < 9; most++ {
		for _, behind := range []string{"", "00", "09", "01 00", "00 00 00 00 00 00 00 00 00 00 00 00"} {
			length := numberByWording(max(0, most+1))
			if most < 0 {
				length = []byte{0}
			}
			b := append(length, bytesOf(t, behind)...)
			failTakeText(t, b, most, api.ErrLong)
			failTakeList(t, b, most, api.ErrLong)
		}
	}
	failTakeText(t, nil, math.MinInt, api.ErrShort)
	failTakeText(t, []byte{0}, math.MinInt, api.ErrLong)
	failTakeList(t, nil, math.MinInt, api.ErrShort)
	failTakeList(t, []byte{0}, math.MinInt, api.ErrLong)
}

// P8.2, P8.3: a length that promises more than there can be takes neither the memory nor the time for it.
func TestGreatLengths(t *testing.T) {
	for _, length := range []int{1 << 20, 1 << 31, 1 << 32, 1 << 40, 1 << 60, math.MaxInt - 1, math.MaxInt} {
		front := numberByWording(length)
		for _, most := range []int{length, math.MaxInt} {
			failTakeText(t, front, most, api.ErrShort)
			failTakeText(t, append(slices.Clone(front), "text"...), most, api.ErrShort)
			failTakeList(t, front, most, api.ErrShort)
			failTakeList(t, append(slices.Clone(front), 0, 0, 1, 7), most, api.ErrShort)
			failTakeList(t, append(slices.Clone(front), 0, 0, 1, 0), most, api.ErrCode)
			failTakeList(t, append(slices.Clone(front), 0, 0, 9), most, api.ErrCode)
		}
		failTakeText(t, front, length-1, api.ErrLong)
		failTakeList(t, front, length-1, api.ErrLong)
		failTakeText(t, front, -1, api.ErrLong)
		failTakeList(t, front, -1, api.ErrLong)
	}
}

// P8.3: each length that may be, behind whatever there is.
func TestPutListFollowsItsWording(t *testing.T) {
	s := source(7)
	lengths := []int{0, 1, 2, 254, 255, 256, 257, 300, 1000, api.MaxText - 1, api.MaxText}
	for length := range 100 {
		lengths = append(lengths, length)
	}
	for i, length := range lengths {
		l, front := s.list(length), s.bytes(i%30)
		want := append(slices.Clone(front), listByWording(l)...)
		if got := putList(t, front, l); !bytes.Equal(got, want) {
			t.Fatalf("a list of %d elements behind %d bytes: %x, want %x", length, len(front), got, want)
		}
	}
	for _, n := range chosenNumbers() {
		l := []int{n, 0, n}
		if got := putList(t, nil, l); !bytes.Equal(got, listByWording(l)) {
			t.Fatalf("PutList(empty, %d) = %x, want %x", l, got, listByWording(l))
		}
	}
	long := s.bytes(1 << 20)
	if got := putList(t, long, []int{0, 5}); !bytes.Equal(got, append(slices.Clone(long), 1, 2, 0, 1, 5)) {
		t.Error("behind 2^20 bytes a list is not encoded as elsewhere")
	}
	for _, l := range [][]int{nil, {}} {
		if got := putList(t, []byte("front"), l); string(got) != "front\x00" {
			t.Errorf("PutList of %#v gives %q", l, got)
		}
	}
}

// P8.3: no list of more than 4096 elements, and that ahead of negative ones.
func TestPutListOfLongLists(t *testing.T) {
	for _, length := range []int{4097, 4098, 8192, 65536} {
		for _, n := range []int{0, 1, -1, math.MaxInt, math.MinInt} {
			l := make([]int, length)
			for _, at := range []int{0, 4095, 4096, length - 1} {
				l[at] = n
			}
			for _, front := range [][]byte{nil, []byte("front")} {
				if got, e := PutList(front, l); got != nil || e != api.ErrLong {
					t.Errorf("PutList of %d elements: %d bytes, error %d, want ErrLong", length, len(got), e)
				}
			}
		}
	}
}

// P8.3: a negative element, wherever it is.
func TestPutListOfNegatives(t *testing.T) {
	for _, n := range chosenNegatives() {
		for _, length := range []int{1, 2, 3, 10, 256, 4096} {
			for _, at := range []int{0, length / 2, length - 1} {
				l := make([]int, length)
				l[at] = n
				if got, e := PutList([]byte("front"), l); got != nil || e != api.ErrArg {
					t.Errorf("PutList with %d at %d of %d: %x, %d, want ErrArg", n, at, length, got, e)
				}
			}
		}
	}
}

// P8.3: each length about the limit, cut at each place.
func TestTakeListFollowsItsWording(t *testing.T) {
	s := source(8)
	for length := range 12 {
		for range 4 {
			whole := append(listByWording(s.list(length)), s.bytes(5)...)
			for cut := range len(whole) + 1 {
				for most := -1; most < 14; most++ {
					checkTakeList(t, whole[:cut], most)
				}
			}
		}
	}
	for _, most := range chosenMosts() {
		for _, length := range []int{0, 1, 2, 255, 256, 4095, 4096, 4097, 65536} {
			whole := append(listByWording(s.list(length)), s.bytes(3)...)
			for _, missing := range []int{0, 1, 2, 3, 4} {
				checkTakeList(t, whole[:max(0, len(whole)-missing)], most)
			}
		}
	}
}

// P8.3: every string of up to two bytes, and all of up to five of those that mean something.
func TestTakeListOfAnyBytes(t *testing.T) {
	for _, most := range []int{-1, 0, 1, 2, 300, math.MaxInt} {
		check := func(b []byte) { checkTakeList(t, b, most) }
		eachString(allBytes(), 2, check)
		eachString(chosenBytes(), 5, check)
	}
}

// P8.3: of several wrong elements the first one tells the error.
func TestTakeListTellsTheFirstError(t *testing.T) {
	wrong := map[string]api.Errno{"09": api.ErrCode, "ff": api.ErrCode, "01 00": api.ErrCode, "02 00 01": api.ErrCode, "08 80 00 00 00 00 00 00 00": api.ErrCode}
	ending := map[string]api.Errno{"": api.ErrShort, "01": api.ErrShort, "08 00": api.ErrShort, "02 01": api.ErrShort}
	for ahead := range 5 {
		front := append([]byte{1, 9}, bytes.Repeat([]byte{1, 200}, ahead)...)
		for first, want := range wrong {
			for second := range ending {
				failTakeList(t, slices.Concat(front, bytesOf(t, first), bytesOf(t, second)), 9, want)
			}
			for second := range wrong {
				failTakeList(t, slices.Concat(front, bytesOf(t, first), bytesOf(t, second)), 9, want)
			}
		}
		for last, want := range ending {
			failTakeList(t, slices.Concat(front, bytesOf(t, last)), 9, want)
		}
	}
}

// P8.4: what is decoded is what was encoded, one thing behind the other, with any bytes at the end.
func TestDecodingReturnsWhatWasEncoded(t *testing.T) {
	s := source(9)
	for range 500 {
		n, text, l := s.number(), s.bytes(int(s.next())), s.list(int(s.next())%20)
		behind := s.bytes(int(s.next()) % 20)
		b := append(putList(t, putText(t, put(t, nil, n), text), l), behind...)
		gotN, b, e1 := Take(b)
		gotText, b, e2 := TakeText(b, len(text))
		gotList, b, e3 := TakeList(b, len(l))
		if e1 != api.OK || e2 != api.OK || e3 != api.OK {
			t.Fatalf("the errors %d, %d, %d", e1, e2, e3)
		}
		if gotN != n || !bytes.Equal(gotText, text) || !slices.Equal(gotList, l) || !bytes.Equal(b, behind) {
			t.Fatalf("%d, %x, %d ahead of %x are taken as %d, %x, %d ahead of %x", n, text, l, behind, gotN, gotText, gotList, b)
		}
	}
}

// P8.4: the longest texts and lists come back whole.
func TestTheLongestComeBack(t *testing.T) {
	s := source(10)
	text, l := s.bytes(api.MaxText), s.list(api.MaxText)
	if got, rest, e := TakeText(putText(t, nil, text), api.MaxText); !bytes.Equal(got, text) || len(rest) != 0 || e != api.OK {
		t.Errorf("the longest text: %d bytes, %d behind, error %d", len(got), len(rest), e)
	}
	if got, rest, e := TakeList(putList(t, nil, l), api.MaxText); !slices.Equal(got, l) || len(rest) != 0 || e != api.OK {
		t.Errorf("the longest list: %d elements, %d bytes behind, error %d", len(got), len(rest), e)
	}
	for n := range 300000 {
		if got, rest, e := Take(put(t, nil, n)); got != n || len(rest) != 0 || e != api.OK {
			t.Fatalf("%d comes back as %d, %x, %d", n, got, rest, e)
		}
	}
}

// P8.4: what is accepted is the encoding of what it is decoded to, so that nothing has two.
func TestOneEncodingOfEach(t *testing.T) {
	accepted := 0
	check := func(b []byte) {
		if n, rest, e := Take(b); e == api.OK {
			accepted++
			if again := append(put(t, nil, n), rest...); !bytes.Equal(again, b) {
				t.Fatalf("%x is taken as %d, which is encoded as %x", b, n, again)
			}
		}
		if text, rest, e := TakeText(b, api.MaxText); e == api.OK {
			if again := append(putText(t, nil, text), rest...); !bytes.Equal(again, b) {
				t.Fatalf("%x is taken as a text that is encoded as %x", b, again)
			}
		}
		if l, rest, e := TakeList(b, api.MaxText); e == api.OK {
			if again := append(putList(t, nil, l), rest...); !bytes.Equal(again, b) {
				t.Fatalf("%x is taken as %d, which is encoded as %x", b, l, again)
			}
		}
	}
	eachString(allBytes(), 2, check)
	eachString(chosenBytes(), 5, check)
	s := source(11)
	for range 20000 {
		check(append([]byte{s.next() % 10}, s.bytes(int(s.next())%14)...))
	}
	if accepted == 0 {
		t.Error("nothing is accepted")
	}
}

// P8.4: no encoding is the beginning of another, so that any bytes may follow.
func TestBeginningsAreTooShort(t *testing.T) {
	s := source(12)
	for _, n := range chosenNumbers() {
		whole := numberByWording(n)
		for cut := range whole {
			failTake(t, whole[:cut], api.ErrShort)
		}
	}
	for length := range 30 {
		text, l := textByWording(s.bytes(length)), listByWording(s.list(length))
		for cut := range text {
			failTakeText(t, text[:cut], api.MaxText, api.ErrShort)
		}
		for cut := range l {
			failTakeList(t, l[:cut], api.MaxText, api.ErrShort)
		}
	}
}

// P8.1 to P8.3: the same arguments give the same answer, whatever was asked before.
func TestCallsDoNotHearOneAnother(t *testing.T) {
	s := source(13)
	text, l := s.bytes(100), s.list(50)
	number, packedText, packedList := put(t, nil, 1<<40), putText(t, nil, text), putList(t, nil, l)
	for range 3 {
		Put([]byte("front"), -1)
		PutText([]byte("front"), make([]byte, 5000))
		PutList([]byte("front"), []int{1, 2, -3})
		TakeList([]byte{1, 5, 0, 0, 9}, 5)
		TakeText([]byte{1, 5, 0, 0, 9}, 5)
		if !bytes.Equal(put(t, nil, 1<<40), number) || !bytes.Equal(putText(t, nil, text), packedText) || !bytes.Equal(putList(t, nil, l), packedList) {
			t.Fatal("an encoding is another the second time")
		}
		checkTake(t, number)
		checkTakeText(t, packedText, 100)
		checkTakeList(t, packedList, 50)
	}
}

// roomy is b with spare capacity behind it, and that memory as a whole.
func roomy(s *source, b []byte) (front, whole []byte) {
	whole = append(slices.Clone(b), s.bytes(200)...)
	return whole[:len(b)], whole
}

// P8.1 to P8.3: neither the arguments nor the spare capacity behind them are changed by an encoding, and the answer shares nothing with them.
func TestEncodingLeavesItsArgumentsAlone(t *testing.T) {
	s := source(14)
	for length := range 100 {
		plain, plainText, plainList := s.bytes(length), s.bytes(100-length), s.list(length%10)
		front, frontWhole := roomy(&s, plain)
		text, textWhole := roomy(&s, plainText)
		listWhole := append(slices.Clone(plainList), s.list(20)...)
		l := listWhole[:len(plainList)]
		before, listBefore := string(slices.Concat(frontWhole, textWhole)), listText(listWhole)
		for _, packed := range [][]byte{
			put(t, front, length), put(t, front, 0), put(t, front[:0], math.MaxInt),
			putText(t, front, text), putText(t, front, nil), putText(t, front, front), putText(t, front[:0], text[:0]),
			putList(t, front, l), putList(t, front, nil), putList(t, front[:0], l[:0]),
		} {
			overwrite(packed)
		}
		Put(front, -1)
		PutText(front, make([]byte, 5000))
		PutList(front, []int{1, 2, -1})
		PutList(front, make([]int, 5000))
		if string(slices.Concat(frontWhole, textWhole)) != before || listText(listWhole) != listBefore {
			t.Fatalf("behind %d bytes: what was given is changed", length)
		}
	}
}

// overwrite is what a caller may do with an answer: it is theirs, to its whole capacity.
func overwrite(b []byte) {
	whole := b[:cap(b)]
	for i := range whole {
		whole[i] ^= 0xff
	}
}

// P8.1 to P8.3: the same of decoding; and no two parts of an answer share memory.
func TestDecodingLeavesItsArgumentsAlone(t *testing.T) {
	s := source(15)
	for length := range 100 {
		text, l, plainRest := s.bytes(length), s.list(length), s.bytes(100-length)
		number := slices.Concat(numberByWording(length), plainRest)
		packedText := slices.Concat(textByWording(text), plainRest)
		packedList := slices.Concat(listByWording(l), plainRest)
		for _, plain := range [][]byte{number, packedText, packedList} {
			b, whole := roomy(&s, plain)
			before := string(whole)
			_, left, _ := Take(b)
			overwrite(left)
			gotText, rest, _ := TakeText(b, math.MaxInt)
			keptRest := string(rest)
			overwrite(gotText)
			if string(rest) != keptRest {
				t.Fatalf("a text of %d bytes shares memory with the rest", length)
			}
			kept := string(gotText)
			overwrite(rest)
			if string(gotText) != kept {
				t.Fatalf("the rest shares memory with a text of %d bytes", length)
			}
			gotList, rest, _ := TakeList(b, math.MaxInt)
			overwrite(rest)
			clear(gotList[:cap(gotList)])
			if string(whole) != before {
				t.Fatalf("with %d bytes or elements what was given is changed", length)
			}
		}
	}
}

// P8.1 to P8.3: what the caller does with an argument afterwards is not seen in the answer, and later calls leave it as it is.
func TestAnswersStay(t *testing.T) {
	s := source(16)
	text, l, behind := s.bytes(40), s.list(20), s.bytes(30)
	for range 3 {
		b := slices.Concat(textByWording(text), behind)
		gotText, textRest, _ := TakeText(b, 40)
		clear(b)
		b = slices.Concat(listByWording(l), behind)
		gotList, listRest, _ := TakeList(b, 20)
		clear(b)
		b = slices.Concat(numberByWording(77), behind)
		_, rest, _ := Take(b)
		clear(b)
		front, given, givenList := slices.Clone(behind), slices.Clone(text), slices.Clone(l)
		packed, packedText, packedList := put(t, front, 77), putText(t, front, given), putList(t, front, givenList)
		clear(front)
		clear(given)
		clear(givenList)
		if !bytes.Equal(gotText, text) || !slices.Equal(gotList, l) {
			t.Fatal("what was decoded changes with the argument")
		}
		if !bytes.Equal(textRest, behind) || !bytes.Equal(listRest, behind) || !bytes.Equal(rest, behind) {
			t.Fatal("the rest changes with the argument")
		}
		if !bytes.Equal(packed, slices.Concat(behind, numberByWording(77))) || !bytes.Equal(packedText, slices.Concat(behind, textByWording(text))) || !bytes.Equal(packedList, slices.Concat(behind, listByWording(l))) {
			t.Fatal("what was encoded changes with the argument")
		}
	}
}

// P8.2: a text may lie in the spare capacity of what it is to follow.
func TestPutTextOfItsOwnSpareBytes(t *testing.T) {
	memory := []byte("front text")
	want := string(memory)
	for _, at := range []int{0, 3, 5, 6, 10} {
		front, text := memory[:5], memory[at:]
		if got := putText(t, front, text); string(got) != "front"+string(textByWording([]byte(want[at:]))) {
			t.Errorf("the text from %d on is encoded as %q", at, got)
		}
	}
	if string(memory) != want {
		t.Errorf("the memory is now %q", memory)
	}
}

// P8.1 to P8.3: what follows may be longer than any text or list that is encoded.
func TestLongRests(t *testing.T) {
	s := source(17)
	for _, length := range []int{255, 256, api.MaxText - 1, api.MaxText, api.MaxText + 1, 1 << 20} {
		behind := s.bytes(length)
		for _, n := range []int{0, 77, math.MaxInt} {
			checkTake(t, append(numberByWording(n), behind...))
		}
		for _, count := range []int{0, 1, 20} {
			checkTakeText(t, append(textByWording(s.bytes(count)), behind...), 20)
			checkTakeList(t, append(listByWording(s.list(count)), behind...), 20)
		}
	}
}

// P8.3: the time for a long list goes by its elements, not by the bytes that are left each time.
func TestLongLists(t *testing.T) {
	const length = 1 << 20
	b := append(numberByWording(length), make([]byte, length)...)
	l, rest, e := TakeList(b, math.MaxInt)
	if len(l) != length || len(rest) != 0 || e != api.OK {
		t.Errorf("a list of 2^20 zeros: %d elements, %d bytes behind, error %d", len(l), len(rest), e)
	}
	failTakeList(t, b[:length], math.MaxInt, api.ErrShort)
}
