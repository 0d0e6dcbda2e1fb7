// Package budget: how many vectors may be looked at.
package budget

// Budget is what may still be used up. One goroutine has it.
type Budget struct {
	left  int
	spent chan struct{} // closed when there is none left
}

// Of makes a budget of so many, none of them used up.
func Of(size int) *Budget {
	b := &Budget{left: size, spent: make(chan struct{})}
	b.closeIfSpent()
	return b
}

// Spent tells whether there is none left: nothing may be looked at any more.
func (b *Budget) Spent() bool {
	select {
	case <-b.spent:
		return true
	default:
		return false
	}
}

// Use uses up one; there is one left.
func (b *Budget) Use() {
	b.left--
	b.closeIfSpent()
}

func (b *Budget) closeIfSpent() {
	if b.left == 0 {
		close(b.spent)
	}
}
