package budget_test

import (
	"testing"

	"nearest/budget"
)

func TestSpentWhenUsedUp(t *testing.T) {
	for _, size := range []int{0, 1, 2, 20, 65535} {
		b := budget.Of(size)
		for used := range size {
			if b.Spent() || b.Spent() {
				t.Fatalf("of %d, %d used, it is spent", size, used)
			}
			b.Use()
		}
		if !b.Spent() || !b.Spent() {
			t.Errorf("of %d, all used, it is not spent", size)
		}
	}
}
