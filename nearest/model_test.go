package nearest_test

import (
	"math/big"

	"nearest/api"
)

// The model works scores out in whole numbers, by the document's words alone, so that it shares nothing with the floats of the program.

// unit is the power of two of which all that comes about is a multiple: 2^-298, the least product.
const unit = 298

// exact is size times 2^-298, with a sign; a nought has one too.
type exact struct {
	negative bool
	size     *big.Int
}

type overflow struct{}

func power(n int) *big.Int { return new(big.Int).Lsh(big.NewInt(1), uint(n)) }

func decoded(bits uint32) exact {
	e, m := int(bits>>23&255), int64(bits&(1<<23-1))
	if e == 0 {
		e = 1
	} else {
		m += 1 << 23
	}
	return exact{bits>>31 == 1, new(big.Int).Lsh(big.NewInt(m), uint(e-150+unit))}
}

func encoded(x exact) uint32 {
	k := new(big.Int).Rsh(x.size, unit-149)
	bits := uint32(0)
	if n := k.BitLen(); n < 24 {
		bits = uint32(k.Uint64())
	} else {
		m := new(big.Int).Rsh(k, uint(n-24)).Uint64() - 1<<23
		bits = uint32(n-23)<<23 + uint32(m)
	}
	if x.negative {
		bits |= 1 << 31
	}
	return bits
}

// rounded panics with an overflow, if the number is infinite.
func rounded(x exact) exact {
	brink := new(big.Int).Sub(power(128+unit), power(103+unit))
	if x.size.Cmp(brink) >= 0 {
		panic(overflow{})
	}
	lost := max(unit-149, x.size.BitLen()-24)
	below := new(big.Int).Rsh(x.size, uint(lost))
	rest := new(big.Int).Sub(x.size, new(big.Int).Lsh(below, uint(lost)))
	half := rest.Cmp(power(lost - 1))
	if half > 0 || half == 0 && below.Bit(0) == 1 {
		below.Add(below, big.NewInt(1))
	}
	return exact{x.negative, below.Lsh(below, uint(lost))}
}

func product(x, y exact) exact {
	size := new(big.Int).Mul(x.size, y.size)
	return rounded(exact{x.negative != y.negative, size.Rsh(size, unit)})
}

func signed(x exact) *big.Int {
	if x.negative {
		return new(big.Int).Neg(x.size)
	}
	return x.size
}

func sum(x, y exact) exact {
	z := new(big.Int).Add(signed(x), signed(y))
	if z.Sign() == 0 {
		return exact{x.negative && y.negative, z}
	}
	return rounded(exact{z.Sign() < 0, new(big.Int).Abs(z)})
}

func difference(x, y exact) exact { return sum(x, exact{!y.negative, y.size}) }

func modelTerms(measure int, a, b []uint32) []exact {
	var terms []exact
	for i := range a {
		x, y := decoded(a[i]), decoded(b[i])
		if measure == api.Square {
			x = difference(x, y)
			y = x
		}
		terms = append(terms, product(x, y))
	}
	return terms
}

func modelPlain(terms []exact) exact {
	last := len(terms) - 1
	if last == 0 {
		return terms[0]
	}
	return sum(modelPlain(terms[:last]), terms[last])
}

func modelPairs(terms []exact) exact {
	if len(terms) == 1 {
		return terms[0]
	}
	first := len(terms) - len(terms)/2
	return sum(modelPairs(terms[:first]), modelPairs(terms[first:]))
}

func modelKahan(terms []exact) exact {
	s, c := terms[0], exact{false, new(big.Int)}
	for _, p := range terms[1:] {
		y := difference(p, c)
		t := sum(s, y)
		c = difference(difference(t, s), y)
		s = t
	}
	return s
}

// modelScore is what Score has to answer of right inputs.
func modelScore(measure, way int, a, b []uint32) (bits uint32, overflows bool) {
	defer func() {
		if r := recover(); r != nil {
			if _, ok := r.(overflow); !ok {
				panic(r)
			}
			bits, overflows = 0, true
		}
	}()
	terms := modelTerms(measure, a, b)
	switch way {
	case api.Plain:
		return encoded(modelPlain(terms)), false
	case api.Pairs:
		return encoded(modelPairs(terms)), false
	}
	return encoded(modelKahan(terms)), false
}
