// Package order: which of two vectors is nearer, by their real scores.
//
// Real scores are worked out in whole numbers, as multiples of the square of the least number: nothing is rounded, and the order of the multiples is that of the scores.
package order

import (
	"math/big"

	"nearest/api"
	"nearest/number"
)

// Compare tells -1, if a is nearer to q than b; 1, if b is nearer than a; 0, if their real scores with q are the same. Measure and vectors have been checked.
func Compare(measure int, q []uint32, a []uint32, b []uint32) int {
	return Of(measure, q, a).Compare(Of(measure, q, b))
}

// Nearness stands for a vector's real score with some q: top divided by bottom, which is above 0; the greater is nearer. It can be held against those by the same measure, with the same q.
type Nearness struct{ top, bottom *big.Int }

// Of tells how near v is to q. Measure and vectors have been checked.
func Of(measure int, q []uint32, v []uint32) Nearness {
	wq, wv := whole(q), whole(v)
	switch measure {
	case api.Square:
		far := distance(wq, wv)
		return Nearness{far.Neg(far), big.NewInt(1)}
	case api.Angle:
		return cosine(wq, wv)
	default:
		return Nearness{product(wq, wv), big.NewInt(1)}
	}
}

// Compare tells -1, if n is nearer than other; 1, if other is nearer than n; 0, if they are as near.
func (n Nearness) Compare(other Nearness) int {
	mine := new(big.Int).Mul(n.top, other.bottom)
	others := new(big.Int).Mul(other.top, n.bottom)
	return others.Cmp(mine)
}

// cosine needs no root: that of q's squares divides the cosines of all vectors with q, so it is left out; what is left is squared with its sign kept, which keeps the order.
func cosine(q, v []*big.Int) Nearness {
	return Nearness{signedSquare(product(q, v)), product(v, v)}
}

func whole(list []uint32) []*big.Int {
	numbers := make([]*big.Int, len(list))
	for i, bits := range list {
		numbers[i] = number.Whole(bits)
	}
	return numbers
}

func product(a, b []*big.Int) *big.Int {
	sum, term := new(big.Int), new(big.Int)
	for i := range a {
		sum.Add(sum, term.Mul(a[i], b[i]))
	}
	return sum
}

func distance(a, b []*big.Int) *big.Int {
	sum, term := new(big.Int), new(big.Int)
	for i := range a {
		term.Sub(a[i], b[i])
		sum.Add(sum, term.Mul(term, term))
	}
	return sum
}

func signedSquare(x *big.Int) *big.Int {
	size := new(big.Int).Abs(x)
	return size.Mul(size, x)
}
