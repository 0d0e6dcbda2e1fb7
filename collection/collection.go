// Package collection: collections of vectors, and what is asked of them.
package collection

import (
	"cmp"
	"iter"
	"slices"

	"nearest/api"
	"nearest/check"
)

// Collection is vectors of one dimension, each under an id.
type Collection struct {
	Name      string
	Dimension int
	Measure   int
	Way       int
	items     []item // by rising ids
}

type item struct {
	id     uint16
	vector vector
}

// vector is the bits of its numbers, and noughts behind them: of one dimension, arrays are the same just if the vectors' bits are.
type vector [api.MaxDim]uint32

func vectorOf(numbers []uint32) vector {
	var v vector
	copy(v[:], numbers)
	return v
}

// numbers tells a vector's numbers, without the noughts behind them.
func (c *Collection) numbers(v vector) []uint32 { return v[:c.Dimension] }

// Len tells how many vectors there are.
func (c *Collection) Len() int { return len(c.items) }

// Vectors goes through the ids, rising, and the numbers of the vectors under them.
func (c *Collection) Vectors() iter.Seq2[uint16, []uint32] {
	return func(yield func(uint16, []uint32) bool) {
		for _, it := range c.items {
			if !yield(it.id, c.numbers(it.vector)) {
				return
			}
		}
	}
}

// place tells where the vector under that id stands, or would stand.
func (c *Collection) place(id uint16) (int, bool) {
	return slices.BinarySearchFunc(c.items, id, func(it item, id uint16) int {
		return cmp.Compare(it.id, id)
	})
}

// admit asks whether numbers may stand here, or be searched for.
func (c *Collection) admit(numbers []uint32) api.Errno {
	if e := check.Numbers(c.Dimension, numbers); e != api.OK {
		return e
	}
	return check.Noughts(c.Measure, numbers)
}

// Upsert lays a vector down under an id, in the place of one that stood there.
func (c *Collection) Upsert(id uint16, numbers []uint32) api.Errno {
	if e := c.admit(numbers); e != api.OK {
		return e
	}
	laid := item{id, vectorOf(numbers)}
	place, there := c.place(id)
	if there {
		c.items[place] = laid
		return api.OK
	}
	if len(c.items) >= api.MaxVectors {
		return api.ErrFull
	}
	c.items = slices.Insert(c.items, place, laid)
	return api.OK
}

// Delete takes the vector under an id away.
func (c *Collection) Delete(id uint16) api.Errno {
	place, there := c.place(id)
	if !there {
		return api.ErrNone
	}
	c.items = slices.Delete(c.items, place, place+1)
	return api.OK
}

// Get tells the numbers of the vector under an id.
func (c *Collection) Get(id uint16) ([]uint32, api.Errno) {
	place, there := c.place(id)
	if !there {
		return nil, api.ErrNone
	}
	return c.numbers(c.items[place].vector), api.OK
}

// Same tells the ids of the vectors that have the same bits, rising.
func (c *Collection) Same(numbers []uint32) ([]uint16, api.Errno) {
	if e := check.Numbers(c.Dimension, numbers); e != api.OK {
		return nil, e
	}
	wanted := vectorOf(numbers)
	var ids []uint16
	for _, it := range c.items {
		if it.vector == wanted {
			ids = append(ids, it.id)
		}
	}
	return ids, api.OK
}
