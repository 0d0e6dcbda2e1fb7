package nearest_test

import (
	"math"
	"math/big"

	"nearest/api"
)

// The model of real scores divides by roots, as the document says, to so many places that what differs at all is seen: two cosines that differ do so by more than 2^-1700 of their size, all sums and products of numbers need fewer than 600 places.
const (
	places = 3000
	seen   = -2500
)

func realNumber(bits uint32) *big.Float {
	return place().SetFloat64(float64(math.Float32frombits(bits)))
}

func place() *big.Float { return new(big.Float).SetPrec(places) }

func realProduct(a, b []uint32) *big.Float {
	sum := place()
	for i := range a {
		sum.Add(sum, place().Mul(realNumber(a[i]), realNumber(b[i])))
	}
	return sum
}

func realScore(measure int, a, b []uint32) *big.Float {
	switch measure {
	case api.Dot:
		return realProduct(a, b)
	case api.Angle:
		roots := place().Mul(place().Sqrt(realProduct(a, a)), place().Sqrt(realProduct(b, b)))
		return place().Quo(realProduct(a, b), roots)
	}
	sum := place()
	for i := range a {
		d := place().Sub(realNumber(a[i]), realNumber(b[i]))
		sum.Add(sum, place().Mul(d, d))
	}
	return sum
}

func sameReal(x, y *big.Float) bool {
	size := place().Add(place().Abs(x), place().Abs(y))
	apart := place().Sub(x, y)
	return apart.Abs(apart).Cmp(size.SetMantExp(size, seen)) <= 0
}

// modelCompare is what Compare has to answer of right inputs.
func modelCompare(measure int, q, a, b []uint32) int {
	x, y := realScore(measure, q, a), realScore(measure, q, b)
	if sameReal(x, y) {
		return 0
	}
	if measure == api.Square {
		return x.Cmp(y)
	}
	return y.Cmp(x)
}
