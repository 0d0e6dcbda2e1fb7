package nearest_test

import (
	"slices"
	"testing"

	"nearest/api"
	"nearest/nearest"
)

// storeOf makes a store with a collection "c" of these vectors, under the ids 0, 1, 2 and so on.
func storeOf(t *testing.T, measure, way int, vectors ...[]float64) *nearest.Store {
	t.Helper()
	s := newStore(t)
	wantDone(t, s, create("c", len(vectors[0]), measure, way))
	for id, vector := range vectors {
		wantDone(t, s, upsert("c", id, bitsOf(t, vector...)...))
	}
	return s
}

// TestNearestFirst: by each measure.
func TestNearestFirst(t *testing.T) {
	vectors := [][]float64{{1, 1}, {3, -1}, {-2, 5}, {8, 8}, {-4, 0}}
	q := bitsOf(t, 2, 1)
	for _, c := range []struct {
		measure int
		ids     []int
		scores  []float64
	}{
		{api.Dot, []int{3, 1, 0, 2, 4}, []float64{24, 5, 3, 1, -8}},
		{api.Square, []int{0, 1, 2, 4, 3}, []float64{1, 5, 32, 37, 85}},
		{api.Angle, []int{0, 3, 1, 2, 4}, []float64{3, 24, 5, 1, -8}},
	} {
		for _, way := range ways {
			want := ok
			s := storeOf(t, c.measure, way, vectors...)
			for i, id := range c.ids {
				want += hit(id, bitsOf(t, c.scores[i])[0])
			}
			wantAnswer(t, s, search("c", 5, 5, q...), want)
			for count := 1; count < len(c.ids); count++ {
				wantAnswer(t, s, search("c", count, 5, q...), want[:1+7*count])
			}
			for _, count := range []int{6, 20, 128, 255} {
				wantAnswer(t, s, search("c", count, 5, q...), want)
			}
		}
	}
}

// TestAsNearTheLesserID: in whatever order they came.
func TestAsNearTheLesserID(t *testing.T) {
	order := []int{0xffff, 256, 3, 0x8000, 255, 0, 7}
	for _, measure := range measures {
		s := newStore(t)
		wantDone(t, s, create("c", 2, measure, api.Plain))
		for i, id := range order {
			vector := bitsOf(t, 3, 4)
			if i%2 == 1 {
				vector = bitsOf(t, 4, 3)
			}
			wantDone(t, s, upsert("c", id, vector...))
		}
		q := bitsOf(t, 1, 1)
		score := scoreOf(t, measure, api.Plain, q, bitsOf(t, 3, 4))
		want := ok
		for _, id := range slices.Sorted(slices.Values(order)) {
			want += hit(id, score)
		}
		wantAnswer(t, s, search("c", 255, 0xffff, q...), want)
		wantAnswer(t, s, search("c", 3, 7, q...), want[:22])
	}
}

// TestScoresDoNotOrder: the order is that of the real scores, where the rounded ones are the same or the other way round.
func TestScoresDoNotOrder(t *testing.T) {
	nought, two := bitsOf(t, 0)[0], bitsOf(t, 2)[0]
	s := storeOf(t, api.Dot, api.Plain, []float64{big24, 0, -big24}, []float64{big24, 3, -big24}, []float64{big24, 1, -big24}, []float64{0, 2, 0})
	wantAnswer(t, s, search("c", 4, 4, bitsOf(t, big24, 1, big24)...), ok+hit(1, nought)+hit(3, two)+hit(2, nought)+hit(0, nought))

	s = storeOf(t, api.Dot, api.Plain, []float64{big24, 2, 0, 0}, []float64{big24, 1, 1, 1})
	wantAnswer(t, s, search("c", 2, 2, bitsOf(t, 1, 1, 1, 1)...), ok+hit(1, bitsOf(t, big24)[0])+hit(0, bitsOf(t, big24+2)[0]))

	s = storeOf(t, api.Square, api.Plain, []float64{-1}, []float64{0})
	wantAnswer(t, s, search("c", 2, 2, bitsOf(t, big24)...), ok+hit(1, bitsOf(t, 0x1p48)[0])+hit(0, bitsOf(t, 0x1p48)[0]))

	s = storeOf(t, api.Angle, api.Plain, []float64{100, 101}, []float64{1, 1})
	wantAnswer(t, s, search("c", 2, 2, bitsOf(t, 1, 0)...), ok+hit(1, bitsOf(t, 1)[0])+hit(0, bitsOf(t, 100)[0]))
}

// TestScoresByTheWay: the score that is told is summed up in the collection's way.
func TestScoresByTheWay(t *testing.T) {
	for way, want := range map[int]float64{api.Plain: big24, api.Pairs: big24 + 2, api.Kahan: big24 + 4} {
		s := storeOf(t, api.Dot, way, []float64{1, 1, 1, 1, 1})
		wantAnswer(t, s, search("c", 1, 1, bitsOf(t, big24, 1, 1, 1, 1)...), ok+hit(0, bitsOf(t, want)[0]))
	}
}

// TestOverflowingScores: they are told as noughts, and the vectors stand where their real scores put them.
func TestOverflowingScores(t *testing.T) {
	s := storeOf(t, api.Dot, api.Plain, []float64{-most}, []float64{1}, []float64{most}, []float64{most - 0x1p104}, []float64{0x1p127})
	wantAnswer(t, s, search("c", 5, 5, bitsOf(t, 2)...), ok+overflowingHit(2)+overflowingHit(3)+overflowingHit(4)+hit(1, bitsOf(t, 2)[0])+overflowingHit(0))
	wantAnswer(t, s, search("c", 5, 5, bitsOf(t, minusNought)...), ok+hit(0, 0)+hit(1, 0x80000000)+hit(2, 0x80000000)+hit(3, 0x80000000)+hit(4, 0x80000000))
	s = storeOf(t, api.Square, api.Kahan, []float64{-most}, []float64{most}, []float64{0x1p64})
	wantAnswer(t, s, search("c", 5, 5, bitsOf(t, most)...), ok+hit(1, 0)+overflowingHit(2)+overflowingHit(0))
}

// TestBudget: it is held against how many vectors there are, whatever the count is.
func TestBudget(t *testing.T) {
	s := newStore(t)
	wantDone(t, s, create("c", 1, api.Angle, api.Plain))
	one := bitsOf(t, 1)
	for n := range api.MaxVectors + 1 {
		for budget := range 25 {
			for _, count := range []int{1, n, 255} {
				request := search("c", count, budget, one...)
				if count == 0 {
					wantError(t, s, api.ErrCount, request)
				} else if budget < n {
					wantError(t, s, api.ErrBudget, request)
				} else if got := s.Do(request); len(got) != 1+7*min(n, count) || got[0] != 0 {
					t.Errorf("Do(%x) = %x, with %d vectors", request, got, n)
				}
			}
		}
		for _, budget := range []int{256, 0x7fff, 0x8000, 0xffff} {
			if got := s.Do(search("c", 255, budget, one...)); len(got) != 1+7*n {
				t.Errorf("with the budget %d and %d vectors it tells %x", budget, n, got)
			}
		}
		if n < api.MaxVectors {
			wantDone(t, s, upsert("c", 5*n, bitsOf(t, float64(n+1))...))
		}
	}
	wantDone(t, s, remove("c", 10))
	if got := s.Do(search("c", 1, api.MaxVectors-1, one...)); len(got) != 8 {
		t.Errorf("with a budget for all it tells %x", got)
	}
}

// TestErrorsOfSearch: the first that applies, of those that apply together.
func TestErrorsOfSearch(t *testing.T) {
	s := storeOf(t, api.Angle, api.Plain, []float64{1, 2}, []float64{3, 4})
	none := uint32(0x7fc00000)
	wantError(t, s, api.ErrName, search("d", 0, 0, none), search("d", 1, 9, 1, 1))
	wantError(t, s, api.ErrDim, search("c", 0, 0), search("c", 0, 0, none), search("c", 0, 0, 0), search("c", 0, 0, none, 0, 0))
	wantError(t, s, api.ErrNumber, search("c", 0, 0, none, 0), search("c", 0, 0, 0, none), search("c", 1, 9, 1, none))
	wantError(t, s, api.ErrZero, search("c", 0, 0, 0, 1<<31), search("c", 1, 9, 0, 0))
	wantError(t, s, api.ErrCount, search("c", 0, 0, 0, 1), search("c", 0, 9, 0, 1))
	wantError(t, s, api.ErrBudget, search("c", 1, 0, 0, 1), search("c", 1, 1, 0, 1), search("c", 255, 1, 0, 1))
}

func TestSearchChangesNothing(t *testing.T) {
	s := storeOf(t, api.Square, api.Pairs, []float64{1, 2}, []float64{3, 4}, []float64{0, 0})
	before := view(s)
	first := s.Do(search("c", 2, 3, bitsOf(t, 1, 1)...))
	for range 3 {
		wantAnswer(t, s, search("c", 2, 3, bitsOf(t, 1, 1)...), first)
	}
	if after := view(s); after != before {
		t.Errorf("searches changed the store from %x to %x", before, after)
	}
}
