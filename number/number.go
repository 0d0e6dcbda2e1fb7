// Package number: a number by its 32 bits.
package number

import "math/big"

const (
	signBit      = 1 << 31
	exponentBits = 0xff << 23
	leadingBit   = 1 << 23
	fractionBits = leadingBit - 1
)

// Finite tells whether bits are a number: neither infinite nor none.
func Finite(bits uint32) bool { return bits&exponentBits != exponentBits }

// Nought tells whether bits are one of the two noughts.
func Nought(bits uint32) bool { return bits&^signBit == 0 }

// Whole tells how many times the least number, 2^-149, a finite one is: all of them are whole multiples of it.
func Whole(bits uint32) *big.Int {
	fraction, exponent := int64(bits&fractionBits), uint((bits&exponentBits)>>23)
	if exponent > 0 {
		fraction += leadingBit
		exponent--
	}
	whole := big.NewInt(fraction)
	whole.Lsh(whole, exponent)
	if bits&signBit != 0 {
		whole.Neg(whole)
	}
	return whole
}
