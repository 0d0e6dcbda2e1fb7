// Package score: what two vectors come to, each step rounded.
package score

import (
	"math"

	"nearest/api"
	"nearest/number"
)

// Of tells the bits of the score of two vectors of one dimension, and whether it overflows (the bits are 0 then). Measure, way and vectors have been checked.
func Of(measure int, way int, a []uint32, b []uint32) (uint32, bool) {
	var w work
	total := w.sumUp(way, w.terms(measure, a, b))
	if w.overflows {
		return 0, true
	}
	return math.Float32bits(total), false
}

// work does the steps. It remembers an overflow, for what comes of later steps may be finite all the same.
type work struct{ overflows bool }

func (w *work) rounded(x float32) float32 {
	if !number.Finite(math.Float32bits(x)) {
		w.overflows = true
	}
	return x
}

// In the three steps the conversion keeps the compiler from contracting two of them into one, which would be rounded once.

func (w *work) product(x, y float32) float32 { return w.rounded(float32(x * y)) }

func (w *work) sum(x, y float32) float32 { return w.rounded(float32(x + y)) }

func (w *work) difference(x, y float32) float32 { return w.rounded(float32(x - y)) }

func (w *work) terms(measure int, a []uint32, b []uint32) []float32 {
	terms := make([]float32, len(a))
	for i := range terms {
		x, y := math.Float32frombits(a[i]), math.Float32frombits(b[i])
		if measure == api.Square {
			x = w.difference(x, y)
			y = x
		}
		terms[i] = w.product(x, y)
	}
	return terms
}

func (w *work) sumUp(way int, terms []float32) float32 {
	switch way {
	case api.Pairs:
		return w.pairs(terms)
	case api.Kahan:
		return w.kahan(terms)
	default:
		return w.plain(terms)
	}
}

func (w *work) plain(terms []float32) float32 {
	s := terms[0]
	for _, p := range terms[1:] {
		s = w.sum(s, p)
	}
	return s
}

func (w *work) pairs(terms []float32) float32 {
	if len(terms) == 1 {
		return terms[0]
	}
	half := (len(terms) + 1) / 2
	return w.sum(w.pairs(terms[:half]), w.pairs(terms[half:]))
}

// kahan takes the document's letters. The last c is worked out too, though no step takes it: it may overflow.
func (w *work) kahan(terms []float32) float32 {
	s, c := terms[0], float32(0)
	for _, p := range terms[1:] {
		y := w.difference(p, c)
		t := w.sum(s, y)
		c = w.difference(w.difference(t, s), y)
		s = t
	}
	return s
}
