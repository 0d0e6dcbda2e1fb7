// Package order: which of two vectors is nearer, by their real scores.
//
// Real scores are worked out in whole numbers, as multiples of the square of the least number: nothing is rounded, and the order of the multiples is that of the scores.
package order

import (
	"math/big"

	"nearest/api"
	"nearest/number"
)

// Compare tells -1, if a is nearer to q than b; 1, if b is nearer than a; 0, if their real scores with q are the same. Measure and vectors have been checked.
func Compare(measure int, q []uint32, a []uint32, b []uint32) int {
	wq, wa, wb := whole(q), whole(a), whole(b)
	switch measure {
	case api.Square:
		return distance(wq, wa).Cmp(distance(wq, wb))
	case api.Angle:
		return compareCosines(wq, wb, wa)
	default:
		return product(wq, wb).Cmp(product(wq, wa))
	}
}

func whole(list []uint32) []*big.Int {
	numbers := make([]*big.Int, len(list))
	for i, bits := range list {
		numbers[i] = number.Whole(bits)
	}
	return numbers
}

func product(a, b []*big.Int) *big.Int {
	sum, term := new(big.Int), new(big.Int)
	for i := range a {
		sum.Add(sum, term.Mul(a[i], b[i]))
	}
	return sum
}

func distance(a, b []*big.Int) *big.Int {
	sum, term := new(big.Int), new(big.Int)
	for i := range a {
		term.Sub(a[i], b[i])
		sum.Add(sum, term.Mul(term, term))
	}
	return sum
}

// compareCosines tells the sign of the difference of a's cosine with q and b's. Neither roots nor quotients are needed: the root of q's squares divides both cosines, so it is left out; what is left is squared with its sign kept, which keeps the order, and multiplied by the squares of both a and b.
func compareCosines(q, a, b []*big.Int) int {
	left := signedSquare(product(q, a))
	right := signedSquare(product(q, b))
	left.Mul(left, product(b, b))
	right.Mul(right, product(a, a))
	return left.Cmp(right)
}

func signedSquare(x *big.Int) *big.Int {
	size := new(big.Int).Abs(x)
	return size.Mul(size, x)
}
