package nearest_test

import (
	"math"
	"math/rand"
	"slices"
	"testing"

	"nearest/api"
	"nearest/nearest"
)

const (
	big24 = 1 << 24
	most  = math.MaxFloat32
	least = 0x1p-149
)

var (
	minusNought = math.Copysign(0, -1)
	measures    = []int{api.Dot, api.Square, api.Angle}
	ways        = []int{api.Plain, api.Pairs, api.Kahan}
)

func bitsOf(t *testing.T, numbers ...float64) []uint32 {
	t.Helper()
	var list []uint32
	for _, x := range numbers {
		if float64(float32(x)) != x {
			t.Fatalf("%v is no number of 32 bits", x)
		}
		list = append(list, math.Float32bits(float32(x)))
	}
	return list
}

// wantScore asks for a score, and also that the model agrees with what is wanted.
func wantScore(t *testing.T, measure, way int, a, b []uint32, want uint32, wantOver bool) {
	t.Helper()
	got, over, e := nearest.Score(measure, way, a, b)
	if got != want || over != wantOver || e != api.OK {
		t.Errorf("Score(%d, %d, %x, %x) = %08x, %v, %d, want %08x, %v, 0", measure, way, a, b, got, over, e, want, wantOver)
	}
	if got, over := modelScore(measure, way, a, b); got != want || over != wantOver {
		t.Errorf("the model of Score(%d, %d, %x, %x) is %08x, %v, want %08x, %v", measure, way, a, b, got, over, want, wantOver)
	}
}

// wantSum asks for the score of terms that are the numbers themselves, by Dot and by Angle.
func wantSum(t *testing.T, way int, numbers []float64, want float64) {
	t.Helper()
	a, b := bitsOf(t, numbers...), bitsOf(t, slices.Repeat([]float64{1}, len(numbers))...)
	for _, measure := range []int{api.Dot, api.Angle} {
		wantScore(t, measure, way, a, b, bitsOf(t, want)[0], false)
	}
}

func wantSumOverflows(t *testing.T, way int, numbers ...float64) {
	t.Helper()
	a, b := bitsOf(t, numbers...), bitsOf(t, slices.Repeat([]float64{1}, len(numbers))...)
	for _, measure := range []int{api.Dot, api.Angle} {
		wantScore(t, measure, way, a, b, 0, true)
	}
}

// wantProduct asks for a score of one term, in all ways.
func wantProduct(t *testing.T, a, b, want uint32) {
	t.Helper()
	for _, way := range ways {
		wantScore(t, api.Dot, way, []uint32{a}, []uint32{b}, want, false)
		wantScore(t, api.Angle, way, []uint32{b}, []uint32{a}, want, false)
	}
}

func TestExamplesOfScore(t *testing.T) {
	a, b := bitsOf(t, 1, 2), bitsOf(t, 3, 4)
	wantScore(t, api.Dot, api.Plain, a, b, 0x41300000, false)
	wantScore(t, api.Square, api.Plain, a, b, 0x41000000, false)
	a, b = bitsOf(t, big24, 1, 1), bitsOf(t, 1, 1, 1)
	wantScore(t, api.Dot, api.Plain, a, b, 0x4b800000, false)
	wantScore(t, api.Dot, api.Pairs, a, b, 0x4b800000, false)
	wantScore(t, api.Dot, api.Kahan, a, b, 0x4b800001, false)
	wantScore(t, api.Dot, api.Plain, bitsOf(t, 0x1p127, -0x1p127), bitsOf(t, 2, 2), 0, true)
	wantScore(t, api.Dot, api.Plain, bitsOf(t, least), bitsOf(t, -0.5), 0x80000000, false)
}

func TestMeasures(t *testing.T) {
	a, b := bitsOf(t, 1, 2, -3), bitsOf(t, 3, 4, 0.5)
	for _, way := range ways {
		wantScore(t, api.Dot, way, a, b, bitsOf(t, 9.5)[0], false)
		wantScore(t, api.Angle, way, a, b, bitsOf(t, 9.5)[0], false)
		wantScore(t, api.Square, way, a, b, bitsOf(t, 20.25)[0], false)
		wantScore(t, api.Square, way, b, a, bitsOf(t, 20.25)[0], false)
	}
}

func TestAllDimensions(t *testing.T) {
	for n := 1; n <= api.MaxDim; n++ {
		a, b := slices.Repeat(bitsOf(t, 3), n), slices.Repeat(bitsOf(t, -2), n)
		for _, way := range ways {
			wantScore(t, api.Dot, way, a, b, bitsOf(t, float64(-6*n))[0], false)
			wantScore(t, api.Square, way, a, b, bitsOf(t, float64(25*n))[0], false)
		}
	}
}

func TestWaysToSumUp(t *testing.T) {
	for _, c := range []struct {
		way     int
		numbers []float64
		want    float64
	}{
		{api.Plain, []float64{1, 1, big24}, big24 + 2},
		{api.Plain, []float64{1, big24, 1}, big24},
		{api.Plain, []float64{big24, 1, 1, 1, 1}, big24},
		{api.Plain, []float64{big24, 1, -big24}, 0},
		{api.Pairs, []float64{1, 1, big24}, big24 + 2},
		{api.Pairs, []float64{big24, 1, 1, 1}, big24 + 2},
		{api.Pairs, []float64{big24, 1, 1, 1, 1}, big24 + 2},
		{api.Pairs, []float64{big24, 1, 1, 1, 1, 1}, big24 + 4},
		{api.Pairs, []float64{1, 1, 1, big24, 0, 0, 0}, big24 + 2},
		{api.Pairs, []float64{big24, 1, 1, 1, 1, 1, 1, 1}, big24 + 6},
		{api.Kahan, []float64{big24, 1}, big24},
		{api.Kahan, []float64{big24, 1, 1, 1, 1}, big24 + 4},
		{api.Kahan, []float64{big24, 1, -big24}, 1},
		{api.Kahan, []float64{1, big24, -big24}, 1},
		{api.Kahan, []float64{1, 0x1p100, 1, -0x1p100}, 0},
	} {
		wantSum(t, c.way, c.numbers, c.want)
	}
}

func TestRoundingOfSums(t *testing.T) {
	for _, way := range ways {
		wantSum(t, way, []float64{big24, 1}, big24)
		wantSum(t, way, []float64{big24 + 2, 1}, big24+4)
		wantSum(t, way, []float64{big24, 1 + 0x1p-23}, big24+2)
		wantSum(t, way, []float64{big24 + 2, 1 - 0x1p-24}, big24+2)
		wantSum(t, way, []float64{-big24, -1}, -big24)
		wantSum(t, way, []float64{-big24 - 2, -1}, -big24-4)
		wantSum(t, way, []float64{1, -0x1p-25}, 1)
		wantSum(t, way, []float64{1, -0x1p-24}, 1-0x1p-24)
		wantSum(t, way, []float64{1, -least}, 1)
	}
}

func TestRoundingOfProducts(t *testing.T) {
	wantProduct(t, 0x3f800001, 0x3fc00000, 0x3fc00002)
	wantProduct(t, 0x3f800003, 0x3fc00000, 0x3fc00004)
	wantProduct(t, 0x3f800002, 0x3fc00000, 0x3fc00003)
	wantProduct(t, 0xbf800001, 0x3fc00000, 0xbfc00002)
	wantProduct(t, 0x3f800001, 0x3f800001, 0x3f800002)
	wantProduct(t, 0x3f7fffff, 0x3f7fffff, 0x3f7ffffe)
}

func TestRoundingOfDifferences(t *testing.T) {
	for _, way := range ways {
		wantScore(t, api.Square, way, bitsOf(t, big24), bitsOf(t, -1), 0x57800000, false)
		wantScore(t, api.Square, way, bitsOf(t, 1), bitsOf(t, -big24), 0x57800000, false)
		wantScore(t, api.Square, way, bitsOf(t, big24+2), bitsOf(t, -1), 0x57800004, false)
	}
}

// TestNothingContracted: each product is rounded ahead of its sum; rounded with it, there would be 2^-24 more.
func TestNothingContracted(t *testing.T) {
	const x = 1 + 0x1p-12
	for _, way := range ways {
		wantScore(t, api.Dot, way, bitsOf(t, x, 1), bitsOf(t, x, -1), bitsOf(t, 0x1p-11)[0], false)
		wantScore(t, api.Dot, way, bitsOf(t, 1, x), bitsOf(t, -1, x), bitsOf(t, 0x1p-11)[0], false)
		wantScore(t, api.Angle, way, bitsOf(t, x, x), bitsOf(t, x, -x), 0, false)
		wantScore(t, api.Square, way, bitsOf(t, x, 0x1p12), bitsOf(t, 0, 0), 0x4b800001, false)
	}
}

func TestNoughts(t *testing.T) {
	wantProduct(t, 0, 0x3f800000, 0)
	wantProduct(t, 0x80000000, 0x3f800000, 0x80000000)
	wantProduct(t, 0, 0xbf800000, 0x80000000)
	wantProduct(t, 0x80000000, 0xbf800000, 0)
	wantProduct(t, 0, 0x80000000, 0x80000000)
	wantProduct(t, 0x80000000, 0x80000000, 0)
	for _, way := range ways {
		wantSum(t, way, []float64{0, 0}, 0)
		wantSum(t, way, []float64{minusNought, 0}, 0)
		wantSum(t, way, []float64{0, minusNought}, 0)
		wantSum(t, way, []float64{minusNought, minusNought}, minusNought)
		wantSum(t, way, []float64{minusNought, minusNought, minusNought}, minusNought)
		wantSum(t, way, slices.Repeat([]float64{minusNought}, api.MaxDim), minusNought)
		wantSum(t, way, []float64{1, -1}, 0)
		wantSum(t, way, []float64{-1, 1}, 0)
		wantSum(t, way, []float64{-1, 1, minusNought}, 0)
		for _, a := range []uint32{0, 0x80000000} {
			for _, b := range []uint32{0, 0x80000000} {
				wantScore(t, api.Square, way, []uint32{a}, []uint32{b}, 0, false)
			}
		}
	}
}

// TestLeastNumbers: those whose e is 0, and what is rounded to them or to nought.
func TestLeastNumbers(t *testing.T) {
	wantProduct(t, 0x00000001, 0x3f000000, 0)
	wantProduct(t, 0x80000001, 0x3f000000, 0x80000000)
	wantProduct(t, 0x80000001, 0xbf000000, 0)
	wantProduct(t, 0x00000001, 0x3f000001, 0x00000001)
	wantProduct(t, 0x00000001, 0x3f400000, 0x00000001)
	wantProduct(t, 0x00000003, 0x3f000000, 0x00000002)
	wantProduct(t, 0x00000005, 0x3f000000, 0x00000002)
	wantProduct(t, 0x00000001, 0x00000001, 0)
	wantProduct(t, 0x00000001, 0x80000001, 0x80000000)
	wantProduct(t, 0x007fffff, 0x3f800001, 0x00800000)
	wantProduct(t, 0x00ffffff, 0x3f000000, 0x00800000)
	wantProduct(t, 0x00800000, 0x3f000000, 0x00400000)
	wantProduct(t, 0x00000001, 0x7f000000, 0x34800000)
	for _, way := range ways {
		wantSum(t, way, []float64{least, least}, 2*least)
		wantSum(t, way, []float64{least, -least}, 0)
		wantSum(t, way, []float64{0x1p-126, -least}, 0x1p-126-least)
		wantSum(t, way, []float64{0x1p-126 - least, least}, 0x1p-126)
		wantScore(t, api.Square, way, bitsOf(t, least), bitsOf(t, -least), 0, false)
		wantScore(t, api.Square, way, bitsOf(t, 0x1p-75), bitsOf(t, 0), 0, false)
		wantScore(t, api.Square, way, bitsOf(t, 0), bitsOf(t, 0x1p-74), 0x00000002, false)
	}
}

func TestOverflowOfTerms(t *testing.T) {
	for _, way := range ways {
		wantScore(t, api.Dot, way, bitsOf(t, 0x1p127), bitsOf(t, 2), 0, true)
		wantScore(t, api.Angle, way, bitsOf(t, 0x1p127), bitsOf(t, -2), 0, true)
		wantScore(t, api.Dot, way, bitsOf(t, 0x1p64), bitsOf(t, 0x1p63), 0x7f000000, false)
		wantScore(t, api.Dot, way, bitsOf(t, 0x1p64, 0), bitsOf(t, 0x1p64, 0), 0, true)
		wantScore(t, api.Dot, way, bitsOf(t, 0, 0, 0x1p64), bitsOf(t, 0, 0, 0x1p64), 0, true)
		wantScore(t, api.Square, way, bitsOf(t, 0x1p64), bitsOf(t, 0), 0, true)
		wantScore(t, api.Square, way, bitsOf(t, 0x1p63), bitsOf(t, 0), 0x7e800000, false)
		wantScore(t, api.Square, way, bitsOf(t, most), bitsOf(t, -most), 0, true)
		wantScore(t, api.Square, way, bitsOf(t, 1, most), bitsOf(t, 1, most), 0, false)
	}
}

// TestBrinkOfProducts: of two factors just 2^128 - 2^103, and of two just below it.
func TestBrinkOfProducts(t *testing.T) {
	at := [2][]uint32{bitsOf(t, 18631*0x1p50), bitsOf(t, 1801*0x1p53)}
	below := [2][]uint32{bitsOf(t, 15595643*0x1p40), bitsOf(t, 9024154*0x1p41)}
	for _, way := range ways {
		wantScore(t, api.Dot, way, at[0], at[1], 0, true)
		wantScore(t, api.Dot, way, below[0], below[1], 0x7f7fffff, false)
	}
}

func TestOverflowOfSums(t *testing.T) {
	for _, way := range ways {
		wantSumOverflows(t, way, most, most)
		wantSumOverflows(t, way, -most, -most)
		wantSumOverflows(t, way, most, 0x1p103)
		wantSumOverflows(t, way, -0x1p103, -most)
		wantSumOverflows(t, way, most, most, -most)
		wantSumOverflows(t, way, most, most, -most, -most)
		wantSum(t, way, []float64{most, 0x1p103 - 0x1p79}, most)
		wantSum(t, way, []float64{most, 0x1p102}, most)
		wantSum(t, way, []float64{most, -most}, 0)
		wantSum(t, way, []float64{-most, most, most}, most)
		wantScore(t, api.Square, way, bitsOf(t, 0x1.8p63, 0x1.8p63), bitsOf(t, 0, 0), 0, true)
	}
	wantSum(t, api.Plain, []float64{-most, 0, most, most}, most)
	wantSum(t, api.Kahan, []float64{-most, 0, most, most}, most)
	wantSumOverflows(t, api.Pairs, -most, 0, most, most)
}

// TestOverflowOfWhatWasLost: by Kahan there are numbers on the way that overflow, where the other ways' sums do not.
func TestOverflowOfWhatWasLost(t *testing.T) {
	const below = most - 0x1p104
	lastDifference := []float64{-3 * 0x1p103, most}
	correctedTerm := []float64{-0x1p127 - 0x1p105, 0x1p103, most}
	for _, way := range []int{api.Plain, api.Pairs} {
		wantSum(t, way, lastDifference, below)
		wantSum(t, way, correctedTerm, most-0x1p127-0x1p105)
	}
	wantSumOverflows(t, api.Kahan, lastDifference...)
	wantSumOverflows(t, api.Kahan, append(lastDifference, 0)...)
	wantSumOverflows(t, api.Kahan, correctedTerm...)
}

func wantRefused(t *testing.T, measure, way int, a, b []uint32, want api.Errno) {
	t.Helper()
	if bits, over, e := nearest.Score(measure, way, a, b); bits != 0 || over || e != want {
		t.Errorf("Score(%d, %d, %x, %x) = %08x, %v, %d, want 0, false, %d", measure, way, a, b, bits, over, e, want)
	}
}

func TestKinds(t *testing.T) {
	one, large, none := bitsOf(t, 1), bitsOf(t, most), []uint32{0x7fc00000}
	wrong := []int{0, 4, -1, 5, 256, 257, 1 + 1<<32, math.MinInt, math.MaxInt}
	for _, w := range wrong {
		for k := 1; k <= 3; k++ {
			wantRefused(t, w, k, one, one, api.ErrKind)
			wantRefused(t, k, w, one, one, api.ErrKind)
			wantRefused(t, w, k, large, large, api.ErrKind)
			wantRefused(t, k, w, nil, one, api.ErrKind)
			wantRefused(t, w, k, none, one, api.ErrKind)
		}
		wantRefused(t, w, w, nil, none, api.ErrKind)
	}
}

func TestDimensions(t *testing.T) {
	many := func(n int, bits uint32) []uint32 { return slices.Repeat([]uint32{bits}, n) }
	const one, large, none = 0x3f800000, 0x7f7fffff, 0xffffffff
	for _, measure := range measures {
		for _, way := range ways {
			wantRefused(t, measure, way, nil, nil, api.ErrDim)
			wantRefused(t, measure, way, []uint32{}, []uint32{}, api.ErrDim)
			wantRefused(t, measure, way, nil, many(1, none), api.ErrDim)
			wantRefused(t, measure, way, many(1, none), nil, api.ErrDim)
			wantRefused(t, measure, way, many(1000, large), many(1000, large), api.ErrDim)
			for n := 1; n <= api.MaxDim+1; n++ {
				wantRefused(t, measure, way, many(n, one), many(n-1, one), api.ErrDim)
				wantRefused(t, measure, way, many(n, one), many(n+1, one), api.ErrDim)
				wantRefused(t, measure, way, many(n, none), many(n+1, large), api.ErrDim)
			}
			wantRefused(t, measure, way, many(api.MaxDim+1, none), many(api.MaxDim+1, one), api.ErrDim)
		}
	}
}

func TestNumbers(t *testing.T) {
	wrong := []uint32{0x7f800000, 0xff800000, 0x7f800001, 0xff800001, 0x7fc00000, 0xffc00000, 0x7fffffff, 0xffffffff}
	for _, bits := range wrong {
		for n := 1; n <= api.MaxDim; n++ {
			for i := range n {
				right, list := slices.Repeat(bitsOf(t, most), n), slices.Repeat(bitsOf(t, most), n)
				list[i] = bits
				for _, way := range ways {
					wantRefused(t, api.Dot, way, list, right, api.ErrNumber)
					wantRefused(t, api.Square, way, right, list, api.ErrNumber)
					wantRefused(t, api.Angle, way, list, list, api.ErrNumber)
				}
			}
		}
	}
}

// TestNoughtVectorsHaveScores: only Compare and stores refuse them.
func TestNoughtVectorsHaveScores(t *testing.T) {
	for _, way := range ways {
		wantScore(t, api.Angle, way, bitsOf(t, 0, 0), bitsOf(t, 1, 2), 0, false)
		wantScore(t, api.Angle, way, bitsOf(t, 0), bitsOf(t, minusNought), 0x80000000, false)
	}
}

// TestListsStayAsTheyAre: also what stands behind them in the same memory, and where both are one list (P2).
func TestListsStayAsTheyAre(t *testing.T) {
	memory := bitsOf(t, 1, -2, 3, most, 5, 6, 7, 8, 9, 10)
	before := slices.Clone(memory)
	for _, measure := range append(measures, 0) {
		for _, way := range append(ways, 0) {
			for n := 0; n <= len(memory)/2; n++ {
				nearest.Score(measure, way, memory[:n], memory[n:2*n])
				nearest.Score(measure, way, memory[:n], memory[:n])
				nearest.Score(measure, way, memory[:n], memory[1:n+1])
				nearest.Score(measure, way, memory[:n], memory)
			}
		}
	}
	if !slices.Equal(memory, before) {
		t.Errorf("the lists are %x now, they were %x", memory, before)
	}
}

// TestListsAreNotKept: what is asked anew hangs on what the lists have now (P2).
func TestListsAreNotKept(t *testing.T) {
	a, b := bitsOf(t, 1, 2), bitsOf(t, 3, 4)
	for _, way := range ways {
		wantScore(t, api.Dot, way, a, b, bitsOf(t, 11)[0], false)
		a[1], b[0] = bitsOf(t, most)[0], bitsOf(t, 0)[0]
		wantScore(t, api.Dot, way, a, b, 0, true)
		a[1], b[0] = bitsOf(t, 2)[0], bitsOf(t, 3)[0]
		wantScore(t, api.Dot, way, a, b, bitsOf(t, 11)[0], false)
	}
}

// draw makes a number: of any kind, or of one kind that is near to an edge.
func draw(r *rand.Rand, kind int) uint32 {
	edges := []float32{0, 1, -1, 2, 3, big24, -big24, big24 + 2, 1 + 0x1p-23, 0x1p103, -3 * 0x1p103, most, -most, 0x1p127, -0x1p127 - 0x1p105, least, -least, 0x1p-126, 0.5, -0.5}
	bits := r.Uint32()
	within := func(low, high int) uint32 { return bits&^(255<<23) | uint32(low+r.Intn(high-low+1))<<23 }
	switch kind {
	case 0:
		return within(0, 254)
	case 1:
		return within(120, 134)
	case 2:
		return within(0, 3)
	case 3:
		return within(250, 254)
	case 4:
		return within(188, 190)
	case 5:
		return within(64, 67) &^ 0x7ff
	}
	return math.Float32bits(edges[r.Intn(len(edges))])
}

// TestDrawnScores holds the program against the model, in all measures and ways.
func TestDrawnScores(t *testing.T) {
	r := rand.New(rand.NewSource(3))
	overflows := 0
	for range 20000 {
		kindA, kindB := r.Intn(7), r.Intn(7)
		if r.Intn(2) == 0 {
			kindB = kindA
		}
		ones := r.Intn(4) == 0
		var a, b []uint32
		for range 1 + r.Intn(api.MaxDim) {
			x, y := draw(r, kindA), draw(r, kindB)
			if ones {
				y = 0x3f800000
			}
			a, b = append(a, x), append(b, y)
		}
		for _, measure := range measures {
			for _, way := range ways {
				want, over := modelScore(measure, way, a, b)
				if over {
					overflows++
				}
				got, gotOver, e := nearest.Score(measure, way, a, b)
				if got != want || gotOver != over || e != api.OK {
					t.Fatalf("Score(%d, %d, %x, %x) = %08x, %v, %d, want %08x, %v, 0", measure, way, a, b, got, gotOver, e, want, over)
				}
			}
		}
	}
	if overflows < 1000 {
		t.Errorf("only %d scores overflowed: that is too few to tell", overflows)
	}
}
