// Package number: a number by its 32 bits.
package number

const exponentBits = 0xff << 23

// Finite tells whether bits are a number: neither infinite nor none.
func Finite(bits uint32) bool { return bits&exponentBits != exponentBits }
