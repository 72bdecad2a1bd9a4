// Package octet is layer 1: bytes as the elements of the field on which AES is based.
package octet

import "math/bits"

// reduction is x^8 + x^4 + x^3 + x + 1 without its x^8, which a byte's shift drops by itself.
const reduction = 0x1b

// boxConstant is what the substitution adds last, so that no byte is mapped to itself.
const boxConstant = 0x63

// Mul is the product of a and b.
func Mul(a, b byte) byte {
	product := byte(0)
	for i := range 8 {
		if b>>i&1 == 1 {
			product ^= a
		}
		a = Times2(a)
	}
	return product
}

// Times2 is Mul(a, 2).
func Times2(a byte) byte {
	if a>>7 == 1 {
		return a<<1 ^ reduction
	}
	return a << 1
}

// Invert is the byte whose product with a is 1, or 0 if a is 0.
//
// The 255 bytes other than 0 are a group, so a^255 is 1 and a^254 is the inverse;
// 254 is 2 + 4 + ... + 128, and 0 stays 0 without a case of its own.
func Invert(a byte) byte {
	power, product := a, byte(1)
	for range 7 {
		power = Mul(power, power)
		product = Mul(product, power)
	}
	return product
}

// Box is the AES substitution of a.
//
// Bit i is to have the bits i, i + 4, ..., i + 7 of the inverse: those are the bits i
// of the inverse rotated to the left by 0, 4, 3, 2 and 1.
func Box(a byte) byte {
	inverse := Invert(a)
	result := byte(boxConstant)
	for shift := range 5 {
		result ^= bits.RotateLeft8(inverse, shift)
	}
	return result
}
