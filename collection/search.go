package collection

import (
	"cmp"
	"slices"

	"nearest/api"
	"nearest/budget"
	"nearest/order"
	"nearest/score"
)

// Hit is a vector that was found: its id and its score.
type Hit struct {
	ID        uint16
	Bits      uint32
	Overflows bool
	near      order.Nearness
}

// Search tells of the vectors that are nearest to one, at most count of them, the nearest first, of two that are as near the one with the lesser id. It looks at all of them, if the budget allows so many.
func (c *Collection) Search(numbers []uint32, count int, looks int) ([]Hit, api.Errno) {
	if e := c.admit(numbers); e != api.OK {
		return nil, e
	}
	if count == 0 {
		return nil, api.ErrCount
	}
	hits, e := c.lookAtAll(numbers, budget.Of(looks))
	if e != api.OK {
		return nil, e
	}
	slices.SortFunc(hits, func(a, b Hit) int {
		return cmp.Or(a.near.Compare(b.near), cmp.Compare(a.ID, b.ID))
	})
	return hits[:min(count, len(hits))], api.OK
}

func (c *Collection) lookAtAll(numbers []uint32, b *budget.Budget) ([]Hit, api.Errno) {
	var hits []Hit
	for _, it := range c.items {
		if b.Spent() {
			return nil, api.ErrBudget
		}
		hits = append(hits, c.look(numbers, it, b))
	}
	return hits, api.OK
}

func (c *Collection) look(numbers []uint32, it item, b *budget.Budget) Hit {
	b.Use()
	stored := c.numbers(it.vector)
	bits, overflows := score.Of(c.Measure, c.Way, numbers, stored)
	return Hit{it.id, bits, overflows, order.Of(c.Measure, numbers, stored)}
}
