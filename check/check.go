// Package check: whether what is handed in may be.
package check

import (
	"nearest/api"
	"nearest/number"
)

// Measure tells whether there is such a measure.
func Measure(measure int) bool {
	return measure == api.Dot || measure == api.Square || measure == api.Angle
}

// Way tells whether there is such a way to sum up.
func Way(way int) bool {
	return way == api.Plain || way == api.Pairs || way == api.Kahan
}

// Dimension tells whether there is such a dimension.
func Dimension(dimension int) bool {
	return dimension >= 1 && dimension <= api.MaxDim
}

// Vectors asks that all lists are vectors of the first one's dimension: of all of them first how many numbers they have (ErrDim), then which (ErrNumber).
func Vectors(first []uint32, others ...[]uint32) api.Errno {
	if !Dimension(len(first)) {
		return api.ErrDim
	}
	for _, other := range others {
		if len(other) != len(first) {
			return api.ErrDim
		}
	}
	if !allFinite(first) {
		return api.ErrNumber
	}
	for _, other := range others {
		if !allFinite(other) {
			return api.ErrNumber
		}
	}
	return api.OK
}

// Numbers asks that a list is a vector of that dimension: first how many numbers it has (ErrDim), then which (ErrNumber).
func Numbers(dimension int, list []uint32) api.Errno {
	if len(list) != dimension {
		return api.ErrDim
	}
	return Vectors(list)
}

func allFinite(list []uint32) bool {
	for _, bits := range list {
		if !number.Finite(bits) {
			return false
		}
	}
	return true
}

// Noughts asks that none of the lists is a nought vector, where angles are measured (ErrZero).
func Noughts(measure int, lists ...[]uint32) api.Errno {
	if measure != api.Angle {
		return api.OK
	}
	for _, list := range lists {
		if allNought(list) {
			return api.ErrZero
		}
	}
	return api.OK
}

func allNought(list []uint32) bool {
	for _, bits := range list {
		if !number.Nought(bits) {
			return false
		}
	}
	return true
}
