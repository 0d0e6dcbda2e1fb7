package nearest_test

import (
	"math"
	"math/rand"
	"slices"
	"testing"

	"nearest/api"
	"nearest/nearest"
)

// wantOrder asks for an order of a and b, for the other one of b and a, and that the model agrees.
func wantOrder(t *testing.T, measure int, q, a, b []uint32, want int) {
	t.Helper()
	if got, e := nearest.Compare(measure, q, a, b); got != want || e != api.OK {
		t.Errorf("Compare(%d, %x, %x, %x) = %d, %d, want %d, 0", measure, q, a, b, got, e, want)
	}
	if got, e := nearest.Compare(measure, q, b, a); got != -want || e != api.OK {
		t.Errorf("Compare(%d, %x, %x, %x) = %d, %d, want %d, 0", measure, q, b, a, got, e, -want)
	}
	if got := modelCompare(measure, q, a, b); got != want {
		t.Errorf("the model of Compare(%d, %x, %x, %x) is %d, want %d", measure, q, a, b, got, want)
	}
}

type ordered struct {
	q, a, b []float64
	want    int
}

func wantOrders(t *testing.T, measure int, cases []ordered) {
	t.Helper()
	for _, c := range cases {
		wantOrder(t, measure, bitsOf(t, c.q...), bitsOf(t, c.a...), bitsOf(t, c.b...), c.want)
	}
}

func TestExamplesOfCompare(t *testing.T) {
	wantOrders(t, api.Dot, []ordered{{[]float64{big24, 1, 1}, []float64{1, 1, 1}, []float64{1, 1, 0}, -1}})
	wantOrders(t, api.Angle, []ordered{
		{[]float64{1, 0}, []float64{3, 3}, []float64{-5, -5}, -1},
		{[]float64{1, 0}, []float64{3, 3}, []float64{1, 1}, 0},
	})
}

func TestGreaterProductIsNearer(t *testing.T) {
	wantOrders(t, api.Dot, []ordered{
		{[]float64{1}, []float64{3}, []float64{2}, -1},
		{[]float64{1}, []float64{-3}, []float64{2}, 1},
		{[]float64{-1}, []float64{-3}, []float64{2}, -1},
		{[]float64{1, 2}, []float64{4, 0}, []float64{0, 2}, 0},
		{[]float64{2, 3}, []float64{3, -2}, []float64{0, minusNought}, 0},
		{[]float64{0, minusNought}, []float64{1, 2}, []float64{-3, 4}, 0},
		{[]float64{1, 0}, []float64{1, most}, []float64{1, -most}, 0},
		{[]float64{most}, []float64{0}, []float64{minusNought}, 0},
		{[]float64{1, 1, 1, 1, 1, 1, 1, 1}, []float64{1, 2, 3, 4, 5, 6, 7, 8}, []float64{8, 7, 6, 5, 4, 3, 2, 2}, 1},
	})
}

func TestLesserDistanceIsNearer(t *testing.T) {
	wantOrders(t, api.Square, []ordered{
		{[]float64{1}, []float64{2}, []float64{3}, -1},
		{[]float64{1}, []float64{-1}, []float64{2}, 1},
		{[]float64{1}, []float64{3}, []float64{-1}, 0},
		{[]float64{0, 0}, []float64{3, 4}, []float64{5, minusNought}, 0},
		{[]float64{0, 0}, []float64{3, 3}, []float64{4, 1}, 1},
		{[]float64{0}, []float64{0}, []float64{minusNought}, 0},
		{[]float64{minusNought}, []float64{0}, []float64{least}, -1},
		{[]float64{5}, []float64{5}, []float64{5 + 0x1p-21}, -1},
		{[]float64{1, 2, 3, 4, 5, 6, 7, 8}, []float64{1, 2, 3, 4, 5, 6, 7, 7}, []float64{3, 2, 3, 4, 5, 6, 7, 8}, -1},
	})
}

func TestGreaterCosineIsNearer(t *testing.T) {
	wantOrders(t, api.Angle, []ordered{
		{[]float64{1, 0}, []float64{2, 1}, []float64{1, 2}, -1},
		{[]float64{1, 0}, []float64{2, 1}, []float64{2, -1}, 0},
		{[]float64{1, 0}, []float64{-2, 1}, []float64{-1, 2}, 1},
		{[]float64{1, 0}, []float64{1, 1}, []float64{100, 101}, -1},
		{[]float64{1, 2}, []float64{100, 199}, []float64{1, 2}, 1},
		{[]float64{-1}, []float64{-7}, []float64{7}, -1},
		{[]float64{3}, []float64{7}, []float64{least}, 0},
		{[]float64{3}, []float64{-7}, []float64{-most}, 0},
		{[]float64{1, 0, 0}, []float64{1, 1, 1}, []float64{1, 1, -1}, 0},
		{[]float64{1, 1, 1, 1}, []float64{1, 0, 0, 0}, []float64{1, 1, 0, 0}, 1},
		{[]float64{1, 1, 1, 1, 1, 1, 1, 1}, []float64{3, 0, 0, 0, 0, 0, 0, 0}, []float64{5, 5, 5, 5, 5, 5, 5, 5}, 1},
	})
}

// TestSignsOfCosines: greater, nought and less, each against each, and with each length.
func TestSignsOfCosines(t *testing.T) {
	falling := [][]float64{{1, 0}, {9, 1}, {1, 1}, {1, 9}, {0, 1}, {-1, 9}, {-1, 1}, {-9, 1}, {-1, 0}}
	scaled := func(list []float64, by float64) []uint32 { return bitsOf(t, list[0]*by, list[1]*by) }
	lengths := []float64{1, 3, 0x1p100, 0x1p-140}
	for i, a := range falling {
		for j, b := range falling {
			want := 0
			if i < j {
				want = -1
			} else if i > j {
				want = 1
			}
			for _, n := range lengths {
				for _, m := range lengths {
					for _, k := range lengths {
						wantOrder(t, api.Angle, bitsOf(t, k, 0), scaled(a, n), scaled(b, m), want)
					}
				}
			}
		}
	}
}

// TestLengthOfTheOneAskedFor: it has no part in the order of cosines.
func TestLengthOfTheOneAskedFor(t *testing.T) {
	a, b := bitsOf(t, 5, 1, 3), bitsOf(t, 6, 2, 2)
	for _, by := range []float64{least, 0x1p-100, 1, 0x1p20, 0x1p125} {
		wantOrder(t, api.Angle, bitsOf(t, by, by, 2*by), a, b, -1)
		wantOrder(t, api.Angle, bitsOf(t, -by, -by, -2*by), a, b, 1)
	}
}

// wantScores asks for the rounded scores of q with a and with b, ahead of an order that they do not tell.
func wantScores(t *testing.T, measure int, q, a, b []uint32, scoreA, scoreB float64) {
	t.Helper()
	wantScore(t, measure, api.Plain, q, a, bitsOf(t, scoreA)[0], false)
	wantScore(t, measure, api.Plain, q, b, bitsOf(t, scoreB)[0], false)
}

// TestOrderWhereScoresAreRounded: scores that are the same or the other way round, and real ones that are not.
func TestOrderWhereScoresAreRounded(t *testing.T) {
	q, a, b := bitsOf(t, big24, 1, 1), bitsOf(t, 1, 1, 1), bitsOf(t, 1, 1, 0)
	wantScores(t, api.Dot, q, a, b, big24, big24)
	wantOrder(t, api.Dot, q, a, b, -1)

	q, a, b = bitsOf(t, 1, 1, 1, 1), bitsOf(t, big24, 1, 1, 1), bitsOf(t, big24, 2, 0, 0)
	wantScores(t, api.Dot, q, a, b, big24, big24+2)
	wantOrder(t, api.Dot, q, a, b, -1)

	q, a, b = bitsOf(t, 0, 0, 0, 0), bitsOf(t, 0x1p12, 1, 1, 1), bitsOf(t, 0x1p12, 1, 1, 0)
	wantScores(t, api.Square, q, a, b, big24, big24)
	wantOrder(t, api.Square, q, a, b, 1)

	q, a, b = bitsOf(t, big24), bitsOf(t, -1), bitsOf(t, 0)
	wantScores(t, api.Square, q, a, b, 0x1p48, 0x1p48)
	wantOrder(t, api.Square, q, a, b, 1)

	q, a, b = bitsOf(t, 1, 1, 1), bitsOf(t, big24, 1, 0), bitsOf(t, big24, 0, 1)
	wantOrder(t, api.Angle, q, a, b, 0)
	wantOrder(t, api.Angle, bitsOf(t, 1, 1, 1+0x1p-23), a, b, 1)
}

// TestSameAlthoughScoresDiffer: real scores that are the same, of terms in another order.
func TestSameAlthoughScoresDiffer(t *testing.T) {
	q, a, b := bitsOf(t, 1, 1, 1), bitsOf(t, big24, 1, 1), bitsOf(t, 1, 1, big24)
	wantScores(t, api.Dot, q, a, b, big24, big24+2)
	wantOrder(t, api.Dot, q, a, b, 0)
	wantOrder(t, api.Angle, q, a, b, 0)
	wantOrder(t, api.Square, q, a, b, 0)

	q, a, b = bitsOf(t, 1, 1, 1), bitsOf(t, big24, 1, -big24), bitsOf(t, big24, -big24, 1)
	wantScores(t, api.Dot, q, a, b, 0, 1)
	wantOrder(t, api.Dot, q, a, b, 0)
}

// TestOrderWhereScoresOverflow: also where all overflows, up to the greatest number.
func TestOrderWhereScoresOverflow(t *testing.T) {
	wantOrders(t, api.Dot, []ordered{
		{[]float64{most}, []float64{most}, []float64{most - 0x1p104}, -1},
		{[]float64{most}, []float64{-most}, []float64{0x1p104 - most}, 1},
		{[]float64{most, least}, []float64{most, least}, []float64{most, 0}, -1},
		{[]float64{most, most, 1}, []float64{most, -most, least}, []float64{most, -most, 0}, -1},
		{[]float64{most, most}, []float64{most, -most}, []float64{0, 0}, 0},
		{slices.Repeat([]float64{most}, 8), slices.Repeat([]float64{most}, 8), append(slices.Repeat([]float64{most}, 7), most-0x1p104), -1},
	})
	wantOrders(t, api.Square, []ordered{
		{[]float64{most}, []float64{-most}, []float64{0x1p104 - most}, 1},
		{[]float64{most, 0}, []float64{-most, least}, []float64{-most, 0}, 1},
		{[]float64{most, 0}, []float64{-most, least}, []float64{-most, -least}, 0},
		{[]float64{1, most}, []float64{1, -most}, []float64{least, -most}, -1},
	})
	wantOrders(t, api.Angle, []ordered{
		{[]float64{most, most}, []float64{most, most}, []float64{most, most - 0x1p104}, -1},
		{[]float64{most, most}, []float64{-most, -most}, []float64{-most, 0x1p104 - most}, 1},
		{[]float64{most, 0}, []float64{most, 0}, []float64{most, least}, -1},
		{[]float64{most, most}, []float64{most, most}, []float64{least, least}, 0},
	})
}

// TestOrderOfLeastNumbers: terms that are all rounded to nought.
func TestOrderOfLeastNumbers(t *testing.T) {
	wantOrders(t, api.Dot, []ordered{
		{[]float64{least}, []float64{2 * least}, []float64{least}, -1},
		{[]float64{least}, []float64{least}, []float64{0}, -1},
		{[]float64{least}, []float64{-least}, []float64{minusNought}, 1},
		{[]float64{0x1p-126}, []float64{0x1p-126}, []float64{0x1p-126 - least}, -1},
		{[]float64{0x1p-126 + least}, []float64{0x1p-126 + least}, []float64{0x1p-126}, -1},
		{[]float64{1, least}, []float64{1, least}, []float64{1, -least}, -1},
	})
	wantOrders(t, api.Square, []ordered{
		{[]float64{0}, []float64{least}, []float64{2 * least}, -1},
		{[]float64{least}, []float64{0}, []float64{2 * least}, 0},
		{[]float64{0x1p-126}, []float64{0x1p-126 - least}, []float64{0x1p-126 + least}, 0},
		{[]float64{0x1p-126}, []float64{0x1p-126 - 2*least}, []float64{0x1p-126 + least}, 1},
		{[]float64{1, 0}, []float64{2, least}, []float64{2, 0}, 1},
	})
	wantOrders(t, api.Angle, []ordered{
		{[]float64{least, 0}, []float64{least, least}, []float64{2 * least, least}, 1},
		{[]float64{least, least}, []float64{least, least}, []float64{most, most}, 0},
		{[]float64{1, 0}, []float64{1, least}, []float64{1, 0}, 1},
		{[]float64{1, 0}, []float64{most, least}, []float64{most, 2 * least}, -1},
		{[]float64{1, 0}, []float64{least, most}, []float64{-least, most}, -1},
		{[]float64{1, 0}, []float64{least, most}, []float64{0, least}, -1},
		{[]float64{1, 0}, []float64{-least, most}, []float64{minusNought, least}, 1},
	})
}

func wantNoOrder(t *testing.T, measure int, q, a, b []uint32, want api.Errno) {
	t.Helper()
	if got, e := nearest.Compare(measure, q, a, b); got != 0 || e != want {
		t.Errorf("Compare(%d, %x, %x, %x) = %d, %d, want 0, %d", measure, q, a, b, got, e, want)
	}
}

func TestKindsOfCompare(t *testing.T) {
	one, two, nought, none := bitsOf(t, 1), bitsOf(t, 2), bitsOf(t, 0), []uint32{0x7fc00000}
	for _, w := range []int{0, 4, -1, -3, 5, 256, 257, 259, 3 + 1<<32, math.MinInt, math.MaxInt} {
		wantNoOrder(t, w, one, one, two, api.ErrKind)
		wantNoOrder(t, w, nil, one, two, api.ErrKind)
		wantNoOrder(t, w, one, bitsOf(t, 1, 2), two, api.ErrKind)
		wantNoOrder(t, w, one, one, none, api.ErrKind)
		wantNoOrder(t, w, nought, one, two, api.ErrKind)
	}
}

func TestDimensionsOfCompare(t *testing.T) {
	many := func(n int, bits uint32) []uint32 { return slices.Repeat([]uint32{bits}, n) }
	const one, two, none, nought = 0x3f800000, 0x40000000, 0xffffffff, 0x80000000
	for _, measure := range measures {
		wantNoOrder(t, measure, nil, nil, nil, api.ErrDim)
		wantNoOrder(t, measure, []uint32{}, []uint32{}, []uint32{}, api.ErrDim)
		wantNoOrder(t, measure, nil, many(1, one), many(1, two), api.ErrDim)
		wantNoOrder(t, measure, many(1000, one), many(1000, one), many(1000, two), api.ErrDim)
		wantNoOrder(t, measure, many(9, none), many(9, one), many(9, two), api.ErrDim)
		wantNoOrder(t, measure, many(9, nought), many(9, one), many(9, two), api.ErrDim)
		for n := 1; n <= api.MaxDim+1; n++ {
			for _, other := range []int{0, n - 1, n + 1, 2 * n} {
				wantNoOrder(t, measure, many(n, one), many(other, one), many(n, two), api.ErrDim)
				wantNoOrder(t, measure, many(n, one), many(n, one), many(other, two), api.ErrDim)
				wantNoOrder(t, measure, many(n, one), many(other, one), many(other, two), api.ErrDim)
				wantNoOrder(t, measure, many(n, none), many(n, one), many(other, two), api.ErrDim)
				wantNoOrder(t, measure, many(n, one), many(n, none), many(other, two), api.ErrDim)
				wantNoOrder(t, measure, many(n, nought), many(n, nought), many(other, two), api.ErrDim)
			}
		}
	}
}

func TestAllDimensionsOfCompare(t *testing.T) {
	for n := 1; n <= api.MaxDim; n++ {
		for i := range n {
			q, a, b := slices.Repeat(bitsOf(t, 1), n), slices.Repeat(bitsOf(t, 1), n), slices.Repeat(bitsOf(t, 1), n)
			b[i] = bitsOf(t, -1)[0]
			for _, measure := range measures {
				wantOrder(t, measure, q, a, a, 0)
				wantOrder(t, measure, q, a, b, -1)
			}
		}
	}
}

func TestNumbersOfCompare(t *testing.T) {
	wrong := []uint32{0x7f800000, 0xff800000, 0x7f800001, 0xff800001, 0x7fc00000, 0xffffffff}
	for _, bits := range wrong {
		for n := 1; n <= api.MaxDim; n++ {
			for i := range n {
				right, nought, list := slices.Repeat(bitsOf(t, most), n), slices.Repeat(bitsOf(t, 0), n), slices.Repeat(bitsOf(t, 0), n)
				list[i] = bits
				for _, measure := range measures {
					wantNoOrder(t, measure, list, right, right, api.ErrNumber)
					wantNoOrder(t, measure, right, list, right, api.ErrNumber)
					wantNoOrder(t, measure, right, right, list, api.ErrNumber)
					wantNoOrder(t, measure, nought, right, list, api.ErrNumber)
					wantNoOrder(t, measure, list, nought, nought, api.ErrNumber)
				}
			}
		}
	}
}

// TestNoughtVectors: all of them, by the signs of their noughts; one number that is not nought makes another vector of them.
func TestNoughtVectors(t *testing.T) {
	for n := 1; n <= api.MaxDim; n++ {
		right := slices.Repeat(bitsOf(t, 1), n)
		for signs := range 1 << n {
			nought := make([]uint32, n)
			for i := range nought {
				nought[i] = uint32(signs>>i&1) << 31
			}
			wantNoOrder(t, api.Angle, nought, right, right, api.ErrZero)
			wantNoOrder(t, api.Angle, right, nought, right, api.ErrZero)
			wantNoOrder(t, api.Angle, right, right, nought, api.ErrZero)
			wantNoOrder(t, api.Angle, nought, nought, nought, api.ErrZero)
			nought[signs%n] |= 1
			if _, e := nearest.Compare(api.Angle, nought, right, nought); e != api.OK {
				t.Errorf("Compare(%d, %x, %x, %x) answers the error %d", api.Angle, nought, right, nought, e)
			}
		}
	}
	nought, a, b := bitsOf(t, 0, minusNought), bitsOf(t, 1, 2), bitsOf(t, 2, 2)
	wantOrder(t, api.Dot, nought, a, b, 0)
	wantOrder(t, api.Dot, a, nought, b, 1)
	wantOrder(t, api.Dot, nought, nought, nought, 0)
	wantOrder(t, api.Square, nought, a, b, -1)
	wantOrder(t, api.Square, a, b, nought, -1)
	wantOrder(t, api.Square, nought, nought, bitsOf(t, 0, 0), 0)
}

// TestComparedListsStayAsTheyAre: also what stands behind them in the same memory, and where all are one list (P2).
func TestComparedListsStayAsTheyAre(t *testing.T) {
	memory := bitsOf(t, 1, -2, 3, most, 5, 6, 7, 8, least, 10, 11, 12, -13, 14, 15, 16, 17, 18, 19, 20, 21, 22, 23, 24, 25, 26, 27)
	before := slices.Clone(memory)
	for _, measure := range append(measures, 0) {
		for n := 0; n <= len(memory)/3; n++ {
			nearest.Compare(measure, memory[:n], memory[n:2*n], memory[2*n:3*n])
			nearest.Compare(measure, memory[:n], memory[:n], memory[:n])
			nearest.Compare(measure, memory[:n], memory[1:n+1], memory[2:n+2])
			nearest.Compare(measure, memory[:n], memory[:n], memory)
		}
	}
	if !slices.Equal(memory, before) {
		t.Errorf("the lists are %x now, they were %x", memory, before)
	}
}

// TestComparedListsAreNotKept: what is asked anew hangs on what the lists have now (P2).
func TestComparedListsAreNotKept(t *testing.T) {
	q, a, b := bitsOf(t, 1, 0), bitsOf(t, 2, 1), bitsOf(t, 1, 2)
	for _, measure := range measures {
		wantOrder(t, measure, q, a, b, -1)
		q[0], q[1] = q[1], q[0]
		wantOrder(t, measure, q, a, b, 1)
		a[0], a[1] = a[1], a[0]
		wantOrder(t, measure, q, a, b, 0)
		q[0], q[1], a[0], a[1] = q[1], q[0], a[1], a[0]
	}
}

func drawVector(r *rand.Rand, dimension, kind int) []uint32 {
	list := make([]uint32, dimension)
	for i := range list {
		list[i] = draw(r, kind)
	}
	return list
}

// drawBeside makes a vector that is as near as a, or nearly so: turned round, doubled, or with one bit turned.
func drawBeside(r *rand.Rand, a []uint32) []uint32 {
	b := slices.Clone(a)
	switch r.Intn(4) {
	case 0:
		r.Shuffle(len(b), func(i, j int) { b[i], b[j] = b[j], b[i] })
	case 1:
		for i := range b {
			if e := b[i] >> 23 & 255; e > 0 && e < 254 {
				b[i] += 1 << 23
			}
		}
	case 2:
		b[r.Intn(len(b))] ^= 1
	case 3:
		b[r.Intn(len(b))] ^= 1 << 31
	}
	return b
}

func isNought(list []uint32) bool {
	return !slices.ContainsFunc(list, func(bits uint32) bool { return bits<<1 != 0 })
}

// TestDrawnOrders holds the program against the model, in all measures.
func TestDrawnOrders(t *testing.T) {
	r := rand.New(rand.NewSource(4))
	told := map[int]int{}
	for range 8000 {
		n, kind := 1+r.Intn(api.MaxDim), r.Intn(7)
		q, a, b := drawVector(r, n, r.Intn(7)), drawVector(r, n, kind), drawVector(r, n, kind)
		if r.Intn(4) > 0 {
			b = drawBeside(r, a)
		}
		if r.Intn(3) == 0 {
			q = slices.Repeat(bitsOf(t, 1), n)
		}
		for _, measure := range measures {
			if measure == api.Angle && (isNought(q) || isNought(a) || isNought(b)) {
				wantNoOrder(t, measure, q, a, b, api.ErrZero)
				continue
			}
			want := modelCompare(measure, q, a, b)
			told[want]++
			wantOrder(t, measure, q, a, b, want)
		}
		if t.Failed() {
			return
		}
	}
	if told[-1] < 1000 || told[0] < 1000 || told[1] < 1000 {
		t.Errorf("the orders drawn are %v: that is too few to tell", told)
	}
}
