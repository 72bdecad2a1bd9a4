package octet

import "testing"

// polynomialProduct multiplies whole polynomials first and divides afterwards, so that it shares no step with Mul.
func polynomialProduct(a, b byte) byte {
	long := 0
	for i := range 8 {
		for j := range 8 {
			long ^= int(a>>i&1) * int(b>>j&1) << (i + j)
		}
	}
	for degree := 14; degree >= 8; degree-- {
		if long>>degree&1 == 1 {
			long ^= 0x11b << (degree - 8)
		}
	}
	return byte(long)
}

// products holds Mul of every pair, so that laws over three bytes can be tried for all of them.
func products() *[256][256]byte {
	table := new([256][256]byte)
	for a := range 256 {
		for b := range 256 {
			table[a][b] = Mul(byte(a), byte(b))
		}
	}
	return table
}

// P1.1: ordinary bytes, the edges 0, 1 and 255, and the chapter's examples.
func TestMulOfChosenBytes(t *testing.T) {
	cases := []struct{ a, b, want byte }{
		{0x57, 0x83, 0xc1},
		{0x57, 0x13, 0xfe},
		{0x57, 0x02, 0xae},
		{0x57, 0x04, 0x47},
		{0x57, 0x08, 0x8e},
		{0x57, 0x10, 0x07},
		{0x80, 0x80, 0x9a},
		{0x00, 0x00, 0x00},
		{0x00, 0x01, 0x00},
		{0x00, 0xff, 0x00},
		{0x01, 0x01, 0x01},
		{0x01, 0xff, 0xff},
		{0xff, 0xff, 0x13},
		{0xff, 0x02, 0xe5},
	}
	for _, c := range cases {
		if got := Mul(c.a, c.b); got != c.want {
			t.Errorf("Mul(%#x, %#x) = %#x, want %#x", c.a, c.b, got, c.want)
		}
		if got := Mul(c.b, c.a); got != c.want {
			t.Errorf("Mul(%#x, %#x) = %#x, want %#x", c.b, c.a, got, c.want)
		}
	}
}

// P1.1
func TestMulIsThePolynomialProduct(t *testing.T) {
	for a := range 256 {
		for b := range 256 {
			got, want := Mul(byte(a), byte(b)), polynomialProduct(byte(a), byte(b))
			if got != want {
				t.Fatalf("Mul(%#x, %#x) = %#x, want %#x", a, b, got, want)
			}
		}
	}
}

// P1.1
func TestTimes2OfChosenBytes(t *testing.T) {
	cases := []struct{ a, want byte }{
		{0x80, 0x1b},
		{0x40, 0x80},
		{0x7f, 0xfe},
		{0x57, 0xae},
		{0xae, 0x47},
		{0x00, 0x00},
		{0x01, 0x02},
		{0xff, 0xe5},
	}
	for _, c := range cases {
		if got := Times2(c.a); got != c.want {
			t.Errorf("Times2(%#x) = %#x, want %#x", c.a, got, c.want)
		}
	}
}

// P1.1
func TestTimes2IsMulBy2(t *testing.T) {
	for a := range 256 {
		got := Times2(byte(a))
		if got != Mul(byte(a), 2) || got != polynomialProduct(byte(a), 2) {
			t.Fatalf("Times2(%#x) = %#x", a, got)
		}
	}
}

// P1.2: ordinary bytes, the edges 0, 1 and 255, and the chapter's examples.
func TestInvertOfChosenBytes(t *testing.T) {
	cases := []struct{ a, want byte }{
		{0x53, 0xca},
		{0xca, 0x53},
		{0x02, 0x8d},
		{0x00, 0x00},
		{0x01, 0x01},
		{0xff, 0x1c},
	}
	for _, c := range cases {
		if got := Invert(c.a); got != c.want {
			t.Errorf("Invert(%#x) = %#x, want %#x", c.a, got, c.want)
		}
	}
}

// P1.2
func TestInvertIsTheOtherFactorOf1(t *testing.T) {
	for a := 1; a < 256; a++ {
		inverse := Invert(byte(a))
		if polynomialProduct(byte(a), inverse) != 1 || Mul(byte(a), inverse) != 1 {
			t.Fatalf("Invert(%#x) = %#x", a, inverse)
		}
	}
}

// substitutions is the table of FIPS 197, figure 7, a row a line.
const substitutions = "" +
	"\x63\x7c\x77\x7b\xf2\x6b\x6f\xc5\x30\x01\x67\x2b\xfe\xd7\xab\x76" +
	"\xca\x82\xc9\x7d\xfa\x59\x47\xf0\xad\xd4\xa2\xaf\x9c\xa4\x72\xc0" +
	"\xb7\xfd\x93\x26\x36\x3f\xf7\xcc\x34\xa5\xe5\xf1\x71\xd8\x31\x15" +
	"\x04\xc7\x23\xc3\x18\x96\x05\x9a\x07\x12\x80\xe2\xeb\x27\xb2\x75" +
	"\x09\x83\x2c\x1a\x1b\x6e\x5a\xa0\x52\x3b\xd6\xb3\x29\xe3\x2f\x84" +
	"\x53\xd1\x00\xed\x20\xfc\xb1\x5b\x6a\xcb\xbe\x39\x4a\x4c\x58\xcf" +
	"\xd0\xef\xaa\xfb\x43\x4d\x33\x85\x45\xf9\x02\x7f\x50\x3c\x9f\xa8" +
	"\x51\xa3\x40\x8f\x92\x9d\x38\xf5\xbc\xb6\xda\x21\x10\xff\xf3\xd2" +
	"\xcd\x0c\x13\xec\x5f\x97\x44\x17\xc4\xa7\x7e\x3d\x64\x5d\x19\x73" +
	"\x60\x81\x4f\xdc\x22\x2a\x90\x88\x46\xee\xb8\x14\xde\x5e\x0b\xdb" +
	"\xe0\x32\x3a\x0a\x49\x06\x24\x5c\xc2\xd3\xac\x62\x91\x95\xe4\x79" +
	"\xe7\xc8\x37\x6d\x8d\xd5\x4e\xa9\x6c\x56\xf4\xea\x65\x7a\xae\x08" +
	"\xba\x78\x25\x2e\x1c\xa6\xb4\xc6\xe8\xdd\x74\x1f\x4b\xbd\x8b\x8a" +
	"\x70\x3e\xb5\x66\x48\x03\xf6\x0e\x61\x35\x57\xb9\x86\xc1\x1d\x9e" +
	"\xe1\xf8\x98\x11\x69\xd9\x8e\x94\x9b\x1e\x87\xe9\xce\x55\x28\xdf" +
	"\x8c\xa1\x89\x0d\xbf\xe6\x42\x68\x41\x99\x2d\x0f\xb0\x54\xbb\x16"

// P1.3: every byte, and with them the edges 0, 1 and 255 and the chapter's examples.
func TestBoxIsTheTableOfTheStandard(t *testing.T) {
	for a := range 256 {
		if got := Box(byte(a)); got != substitutions[a] {
			t.Errorf("Box(%#x) = %#x, want %#x", a, got, substitutions[a])
		}
	}
}

// P1.3: bit by bit, as the chapter words it.
func TestBoxIsSumOfTheInversesBits(t *testing.T) {
	for a := range 256 {
		inverse, want := Invert(byte(a)), byte(0)
		for i := range 8 {
			bit := byte(0x63 >> i & 1)
			for _, ahead := range []int{0, 4, 5, 6, 7} {
				bit ^= inverse >> ((i + ahead) % 8) & 1
			}
			want |= bit << i
		}
		if got := Box(byte(a)); got != want {
			t.Errorf("Box(%#x) = %#x, want %#x", a, got, want)
		}
	}
}

// P1.4
func TestMulIsCommutative(t *testing.T) {
	table := products()
	for a := range 256 {
		for b := range a {
			if table[a][b] != table[b][a] {
				t.Fatalf("Mul(%#x, %#x) is not Mul(%#x, %#x)", a, b, b, a)
			}
		}
	}
}

// P1.4
func TestMulIsAssociative(t *testing.T) {
	table := products()
	for a := range 256 {
		for b := range 256 {
			for c := range 256 {
				if table[table[a][b]][c] != table[a][table[b][c]] {
					t.Fatalf("not associative: %#x, %#x, %#x", a, b, c)
				}
			}
		}
	}
}

// P1.4
func TestMulDistributesOverXor(t *testing.T) {
	table := products()
	for a := range 256 {
		for b := range 256 {
			for c := range 256 {
				if table[a][b^c] != table[a][b]^table[a][c] {
					t.Fatalf("not distributive: %#x, %#x, %#x", a, b, c)
				}
			}
		}
	}
}

// P1.4
func TestBoxIsInjectiveAndMovesEveryByte(t *testing.T) {
	from := map[byte]int{}
	for a := range 256 {
		got := Box(byte(a))
		if got == byte(a) {
			t.Errorf("Box(%#x) is the byte itself", a)
		}
		if other, taken := from[got]; taken {
			t.Errorf("Box(%#x) and Box(%#x) are both %#x", other, a, got)
		}
		from[got] = a
	}
}
