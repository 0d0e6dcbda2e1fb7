package nearest_test

import (
	"slices"
	"strings"
	"testing"

	"nearest/api"
	"nearest/nearest"
)

func TestExamplesOfDo(t *testing.T) {
	s := newStore(t)
	wantAnswer(t, s, "\x01\x01\x61\x02\x01\x01", "\x00")
	wantAnswer(t, s, "\x03\x01\x61\x00\x07\x3f\x80\x00\x00\x40\x00\x00\x00", "\x00")
	wantAnswer(t, s, "\x06\x01\x61\x05\x00\x0a\x40\x40\x00\x00\x40\x80\x00\x00", "\x00\x00\x07\x00\x41\x30\x00\x00")
	wantAnswer(t, s, "\x08", "\x00\x01\x61\x02\x01\x01\x01")
	wantAnswer(t, s, "\x05\x01\x61\x00\x08", "\x0a")
	wantAnswer(t, s, "\x09", "\x02")
}

// TestNewStoreIsEmpty: P5.
func TestNewStoreIsEmpty(t *testing.T) {
	s := newStore(t)
	wantAnswer(t, s, list, ok)
	for _, name := range []string{"a", "\x00", "0123456789"} {
		one := bitsOf(t, 1)
		wantError(t, s, api.ErrName, drop(name), upsert(name, 0, one...), remove(name, 0), get(name, 0), search(name, 1, 1, one...), same(name, one...))
	}
	wantAnswer(t, s, list, ok)
}

// TestNilStore: ErrNil alone, whatever is asked (P6).
func TestNilStore(t *testing.T) {
	var none *nearest.Store
	for _, request := range []string{"", list, "\x09", "\x01", create("a", 2, api.Dot, api.Plain), create("a", 0, 0, 0), drop("a"), get("a", 1), list + "x", strings.Repeat("\xff", 1000)} {
		wantAnswer(t, none, request, "\x01")
	}
}

// TestStoresAreApart: what one store is told, no other knows (P2).
func TestStoresAreApart(t *testing.T) {
	first, second := newStore(t), newStore(t)
	wantDone(t, first, create("a", 1, api.Dot, api.Plain), upsert("a", 1, bitsOf(t, 1)...))
	wantAnswer(t, second, list, ok)
	wantDone(t, second, create("a", 2, api.Square, api.Kahan), upsert("a", 1, bitsOf(t, 5, 6)...))
	wantAnswer(t, first, get("a", 1), ok+numbersOf(bitsOf(t, 1)))
	wantDone(t, second, drop("a"))
	wantAnswer(t, first, list, ok+"\x01a\x01\x01\x01\x01")
	wantAnswer(t, newStore(t), list, ok)
}

// filled makes a store in which each of wellFormedRequests may be asked.
func filled(t *testing.T) *nearest.Store {
	t.Helper()
	s := newStore(t)
	wantDone(t, s, create("ab", 2, api.Dot, api.Plain), upsert("ab", 7, bitsOf(t, 1, 2)...), upsert("ab", 256, bitsOf(t, 3, 4)...))
	wantDone(t, s, create("\x03\x01", 1, api.Angle, api.Kahan), upsert("\x03\x01", 0, bitsOf(t, 5)...))
	return s
}

func wellFormedRequests(t *testing.T) []string {
	t.Helper()
	return []string{
		create("new", 2, api.Dot, api.Plain), drop("ab"), upsert("ab", 7, bitsOf(t, 5, 6)...), upsert("ab", 8, bitsOf(t, 5, 6)...),
		remove("ab", 7), get("ab", 256), search("ab", 2, 9, bitsOf(t, 1, 1)...), same("ab", bitsOf(t, 1, 2)...), list,
	}
}

// TestRequestsCutShort: each beginning is ErrRequest, if it does not end between numbers.
func TestRequestsCutShort(t *testing.T) {
	for _, request := range wellFormedRequests(t) {
		for n := range len(request) {
			cut := request[:n]
			if wellFormed(cut) {
				wantError(t, filled(t), api.ErrDim, cut)
			} else {
				wantError(t, filled(t), api.ErrRequest, cut)
			}
		}
	}
	wantError(t, filled(t), api.ErrRequest, "")
}

func TestRequestsWithBytesLeftOver(t *testing.T) {
	for _, request := range wellFormedRequests(t) {
		_, numbers, _ := modelLength(int(request[0]), 1)
		for n := 1; n <= 9; n++ {
			want := api.ErrRequest
			if numbers && n%4 == 0 {
				want = api.ErrDim
			}
			wantError(t, filled(t), want, request+strings.Repeat("\x00", n), request+strings.Repeat("\x08", n))
		}
	}
	for _, request := range []string{list + list, drop("ab") + drop("ab"), list + string(make([]byte, 1<<16))} {
		wantError(t, filled(t), api.ErrRequest, request)
	}
}

func TestFirstBytes(t *testing.T) {
	s := filled(t)
	for first := range 256 {
		if first >= api.Create && first <= api.List {
			continue
		}
		wantError(t, s, api.ErrRequest, oneByte(first))
		for _, request := range wellFormedRequests(t) {
			wantError(t, s, api.ErrRequest, oneByte(first)+request[1:])
		}
	}
}

// TestLengthsOfNames: 1 to MaxName are names, in all requests; of others there is none, whatever stands behind.
func TestLengthsOfNames(t *testing.T) {
	for n := range 256 {
		name := strings.Repeat("n", n)
		s := newStore(t)
		one := bitsOf(t, 1)
		requests := []string{upsert(name, 1, one...), get(name, 1), search(name, 1, 1, one...), same(name, one...), remove(name, 1), drop(name)}
		if n == 0 || n > api.MaxName {
			wantError(t, s, api.ErrRequest, create(name, 1, api.Dot, api.Plain))
			wantError(t, s, api.ErrRequest, requests...)
			continue
		}
		wantError(t, s, api.ErrName, requests...)
		wantDone(t, s, create(name, 1, api.Dot, api.Plain))
		wantAnswer(t, s, list, ok+oneByte(n)+name+"\x01\x01\x01\x00")
		for _, request := range requests {
			if got := s.Do(request); got[0] != 0 {
				t.Errorf("Do(%x) = %x, want OK", request, got)
			}
		}
		wantAnswer(t, s, list, ok)
	}
}

// TestRequestErrorGoesAheadOfAll: bytes left over or missing, in requests that have other errors too.
func TestRequestErrorGoesAheadOfAll(t *testing.T) {
	s := filled(t)
	none := []uint32{0x7f800000}
	for _, request := range []string{
		create("ab", 0, 0, 0), create("ab", 2, api.Dot, api.Plain), create("c", 9, api.Dot, api.Plain), drop("none"), upsert("none", 1), upsert("ab", 1, none...),
		remove("none", 1), remove("ab", 1), get("none", 1), get("ab", 1), search("none", 0, 0), search("ab", 0, 0, none...), same("none"), same("ab", none...),
	} {
		wantError(t, s, api.ErrRequest, request+"\x00", request+"\x00\x00\x00\x00\x00", request[:3])
	}
}

// TestNamesOfAnyBytes: of each byte, and those that are no text.
func TestNamesOfAnyBytes(t *testing.T) {
	for b := range 256 {
		s := newStore(t)
		for _, name := range []string{oneByte(b), oneByte(b) + "\x00", "\xff" + oneByte(b) + "\xfe"} {
			wantDone(t, s, create(name, 1, api.Dot, api.Plain), upsert(name, 5, bitsOf(t, 1)...))
			wantError(t, s, api.ErrTaken, create(name, 2, api.Dot, api.Plain))
			wantAnswer(t, s, get(name, 5), ok+numbersOf(bitsOf(t, 1)))
			wantAnswer(t, s, list, ok+nameOf(name)+"\x01\x01\x01\x01")
			wantDone(t, s, drop(name))
		}
	}
}

// TestFieldsInOrder: all bytes of a request stand for another thing.
func TestFieldsInOrder(t *testing.T) {
	s := newStore(t)
	wantAnswer(t, s, "\x01\x02xy\x03\x02\x01", ok)
	wantAnswer(t, s, "\x08", "\x00\x02xy\x03\x02\x01\x00")
	wantAnswer(t, s, "\x03\x02xy\x01\x02\x3f\x80\x00\x00\x12\x34\x56\x78\x80\x00\x00\x01", ok)
	wantAnswer(t, s, "\x05\x02xy\x01\x02", "\x00\x3f\x80\x00\x00\x12\x34\x56\x78\x80\x00\x00\x01")
	wantAnswer(t, s, "\x05\x02xy\x02\x01", "\x0a")
	wantAnswer(t, s, "\x07\x02xy\x3f\x80\x00\x00\x12\x34\x56\x78\x80\x00\x00\x01", "\x00\x01\x02")
	wantAnswer(t, s, "\x06\x02xy\x01\x01\x00\x40\x40\x00\x00\x12\x34\x56\x78\x80\x00\x00\x01", "\x00\x01\x02\x00\x40\x80\x00\x00")
	wantAnswer(t, s, "\x06\x02xy\x01\x00\x00\x40\x40\x00\x00\x12\x34\x56\x78\x80\x00\x00\x01", "\x0d")
	wantAnswer(t, s, "\x04\x02xy\x02\x01", "\x0a")
	wantAnswer(t, s, "\x04\x02xy\x01\x02", ok)
	wantAnswer(t, s, "\x02\x02xy", ok)
	wantAnswer(t, s, "\x08", ok)
}

// TestCreate: P7.
func TestCreate(t *testing.T) {
	for dimension := 1; dimension <= api.MaxDim; dimension++ {
		for _, measure := range measures {
			for _, way := range ways {
				s := newStore(t)
				wantDone(t, s, create("c", dimension, measure, way))
				wantAnswer(t, s, list, ok+"\x01c"+oneByte(dimension)+oneByte(measure)+oneByte(way)+"\x00")
			}
		}
	}
}

func TestErrorsOfCreate(t *testing.T) {
	s := newStore(t)
	for round := range api.MaxCollections + 1 {
		wrongKind := []int{0, 4, 5, 128, 255}
		for _, name := range []string{"0", "new"} {
			for _, w := range wrongKind {
				wantError(t, s, api.ErrKind, create(name, 1, w, api.Plain), create(name, 1, api.Dot, w), create(name, 0, w, w), create(name, 9, api.Dot, w))
			}
			for _, dimension := range []int{0, api.MaxDim + 1, 128, 255} {
				wantError(t, s, api.ErrDim, create(name, dimension, api.Angle, api.Kahan))
			}
		}
		if round < api.MaxCollections {
			wantDone(t, s, create(oneByte('0'+round), 1+round, api.Dot, api.Plain))
		}
		wantError(t, s, api.ErrTaken, create("0", 1, api.Dot, api.Plain), create("0", 2, api.Angle, api.Kahan))
	}
	wantError(t, s, api.ErrMany, create("new", 1, api.Dot, api.Plain), create("00", 8, api.Square, api.Pairs))
	wantDone(t, s, drop("2"), create("new", 1, api.Dot, api.Plain))
	wantError(t, s, api.ErrMany, create("2", 1, api.Dot, api.Plain))
	wantError(t, s, api.ErrTaken, create("new", 1, api.Dot, api.Plain))
}

// TestDrop: all its vectors are gone too, and those of the others are not.
func TestDrop(t *testing.T) {
	s := newStore(t)
	for _, name := range []string{"a", "aa", "b"} {
		wantDone(t, s, create(name, 1, api.Dot, api.Plain), upsert(name, 1, bitsOf(t, 1)...))
	}
	wantDone(t, s, drop("aa"))
	wantError(t, s, api.ErrName, drop("aa"), get("aa", 1), upsert("aa", 1, bitsOf(t, 1)...), drop("c"), drop("a\x00"), drop("A"))
	wantAnswer(t, s, list, ok+"\x01a\x01\x01\x01\x01\x01b\x01\x01\x01\x01")
	wantDone(t, s, create("aa", 2, api.Square, api.Pairs))
	wantError(t, s, api.ErrNone, get("aa", 1), remove("aa", 1))
	wantAnswer(t, s, list, ok+"\x01a\x01\x01\x01\x01\x02aa\x02\x02\x02\x00\x01b\x01\x01\x01\x01")
	wantDone(t, s, drop("b"), drop("a"), drop("aa"))
	wantAnswer(t, s, list, ok)
}

// TestOrderOfList: by bytes, as numbers without a sign; a shorter name ahead of a longer one that begins with it.
func TestOrderOfList(t *testing.T) {
	for _, names := range [][]string{
		{"a", "aa", "ab", "b"}, {"\x00", "\x00\x00", "\x00\x01", "\x01"}, {"B", "\x7f", "\x80", "\xff"}, {"10", "2", "\xc3\xa9", "\xff\x00"}, {"aaaaaaaaaa", "ab", "b", "ba"},
	} {
		want := ok
		for i, name := range names {
			want += nameOf(name) + oneByte(1+i) + oneByte(api.Square) + oneByte(api.Kahan) + oneByte(i)
		}
		for _, turns := range [][]int{{0, 1, 2, 3}, {3, 2, 1, 0}, {2, 0, 3, 1}, {1, 3, 0, 2}} {
			s := newStore(t)
			for _, i := range turns {
				wantDone(t, s, create(names[i], 1+i, api.Square, api.Kahan))
				for id := range i {
					wantDone(t, s, upsert(names[i], id, make([]uint32, 1+i)...))
				}
			}
			wantAnswer(t, s, list, want)
		}
	}
}

// TestUpsertAndGet: P8, at the edges of ids and dimensions; a vector takes the place of one that stood there.
func TestUpsertAndGet(t *testing.T) {
	edges := []int{0, 1, 255, 256, 257, 0x8000, 0xff00, 0xffff}
	for dimension := 1; dimension <= api.MaxDim; dimension++ {
		s := newStore(t)
		wantDone(t, s, create("c", dimension, api.Angle, api.Plain))
		for round := range 3 {
			for i, id := range edges {
				vector := slices.Repeat([]uint32{uint32(1 + round<<8 + i)}, dimension)
				wantDone(t, s, upsert("c", id, vector...))
				wantAnswer(t, s, get("c", id), ok+numbersOf(vector))
			}
			wantAnswer(t, s, list, ok+"\x01c"+oneByte(dimension)+"\x03\x01"+oneByte(len(edges)))
		}
		for i, id := range edges {
			wantAnswer(t, s, get("c", id), ok+numbersOf(slices.Repeat([]uint32{uint32(1 + 2<<8 + i)}, dimension)))
		}
		wantError(t, s, api.ErrNone, get("c", 2), get("c", 254), get("c", 0xfffe), get("c", 0x0100^0x8000))
	}
}

func TestCollectionsAreApart(t *testing.T) {
	s := newStore(t)
	for i, name := range []string{"a", "b", "ab", "ba"} {
		wantDone(t, s, create(name, 1, api.Dot, api.Plain), upsert(name, 3, bitsOf(t, float64(i))...))
	}
	wantDone(t, s, remove("b", 3), upsert("ab", 4, bitsOf(t, 0)...))
	wantAnswer(t, s, get("a", 3), ok+numbersOf(bitsOf(t, 0)))
	wantAnswer(t, s, get("ab", 3), ok+numbersOf(bitsOf(t, 2)))
	wantAnswer(t, s, get("ba", 3), ok+numbersOf(bitsOf(t, 3)))
	wantError(t, s, api.ErrNone, get("b", 3), get("a", 4), get("ba", 4))
	wantAnswer(t, s, same("ab", bitsOf(t, 0)...), ok+ids(4))
	wantAnswer(t, s, same("a", bitsOf(t, 0)...), ok+ids(3))
}

func TestDelete(t *testing.T) {
	s := newStore(t)
	wantDone(t, s, create("c", 1, api.Dot, api.Plain))
	for _, id := range []int{1, 2, 256, 0xffff} {
		wantDone(t, s, upsert("c", id, bitsOf(t, float64(id))...))
	}
	wantError(t, s, api.ErrNone, remove("c", 0), remove("c", 3), remove("c", 0x0200), remove("c", 0xfffe))
	wantError(t, s, api.ErrName, remove("d", 1))
	wantDone(t, s, remove("c", 2))
	wantError(t, s, api.ErrNone, remove("c", 2), get("c", 2))
	wantAnswer(t, s, get("c", 1), ok+numbersOf(bitsOf(t, 1)))
	wantAnswer(t, s, get("c", 256), ok+numbersOf(bitsOf(t, 256)))
	wantAnswer(t, s, list, ok+"\x01c\x01\x01\x01\x03")
	wantDone(t, s, remove("c", 0xffff), remove("c", 1), remove("c", 256))
	wantError(t, s, api.ErrNone, remove("c", 256))
	wantAnswer(t, s, list, ok+"\x01c\x01\x01\x01\x00")
	wantDone(t, s, upsert("c", 2, bitsOf(t, 7)...))
	wantAnswer(t, s, get("c", 2), ok+numbersOf(bitsOf(t, 7)))
}

// asVector makes the three requests that carry a vector. A search asks for nothing else that is wrong.
func asVector(name string, numbers ...uint32) (upserting, searching, asking string) {
	return upsert(name, 1, numbers...), search(name, 1, 99, numbers...), same(name, numbers...)
}

// TestDimensionsAndNumbersOfRequests: ErrName, ErrDim, ErrNumber, in this order, of all three requests.
func TestDimensionsAndNumbersOfRequests(t *testing.T) {
	wrong := []uint32{0x7f800000, 0xff800000, 0x7f800001, 0xff800001, 0x7fc00000, 0xffffffff}
	for _, measure := range measures {
		for dimension := 1; dimension <= api.MaxDim; dimension++ {
			s := newStore(t)
			wantDone(t, s, create("c", dimension, measure, api.Plain))
			for n := range 20 {
				for _, bits := range append(wrong, 0, 0x3f800000) {
					a, b, c := asVector("d", slices.Repeat([]uint32{bits}, n)...)
					wantError(t, s, api.ErrName, a, b, c)
					a, b, c = asVector("c", slices.Repeat([]uint32{bits}, n)...)
					if n != dimension {
						wantError(t, s, api.ErrDim, a, b, c)
					} else if slices.Contains(wrong, bits) {
						wantError(t, s, api.ErrNumber, a, b, c)
					}
				}
			}
			for i := range dimension {
				vector := make([]uint32, dimension)
				vector[i] = wrong[i%len(wrong)]
				a, b, c := asVector("c", vector...)
				wantError(t, s, api.ErrNumber, a, b, c)
			}
		}
	}
	s := newStore(t)
	wantDone(t, s, create("c", 1, api.Dot, api.Plain))
	a, b, c := asVector("c", make([]uint32, 1<<18+1)...)
	wantError(t, s, api.ErrDim, a, b, c)
}

// TestNoughtVectorsOfRequests: where angles are measured they are refused, but by Same; elsewhere they are vectors.
func TestNoughtVectorsOfRequests(t *testing.T) {
	for dimension := 1; dimension <= api.MaxDim; dimension++ {
		for _, measure := range measures {
			s := newStore(t)
			wantDone(t, s, create("c", dimension, measure, api.Plain))
			for signs := range 1 << dimension {
				nought := make([]uint32, dimension)
				for i := range nought {
					nought[i] = uint32(signs>>i&1) << 31
				}
				upserting, searching, asking := asVector("c", nought...)
				if measure == api.Angle {
					wantError(t, s, api.ErrZero, upserting, searching, search("c", 0, 0, nought...))
					wantAnswer(t, s, asking, ok)
					continue
				}
				wantDone(t, s, upserting)
				wantAnswer(t, s, searching, ok+hit(1, scoreOf(t, measure, api.Plain, nought, nought)))
				wantAnswer(t, s, asking, ok+ids(1))
			}
		}
	}
}

func scoreOf(t *testing.T, measure, way int, a, b []uint32) uint32 {
	t.Helper()
	bits, overflows := modelScore(measure, way, a, b)
	if overflows {
		t.Fatalf("the score of %x and %x overflows", a, b)
	}
	return bits
}

// TestFull: MaxVectors stand in a collection; what stands there can be laid down anew, and what is taken away makes room.
func TestFull(t *testing.T) {
	s := newStore(t)
	wantDone(t, s, create("c", 1, api.Angle, api.Plain), create("d", 1, api.Dot, api.Plain))
	for i := range api.MaxVectors {
		wantDone(t, s, upsert("c", 3*i, bitsOf(t, 1)...))
	}
	wantAnswer(t, s, list, ok+"\x01c\x01\x03\x01\x14\x01d\x01\x01\x01\x00")
	for _, id := range []int{1, 29, 58, 60, 0xffff} {
		wantError(t, s, api.ErrFull, upsert("c", id, bitsOf(t, 2)...))
		wantError(t, s, api.ErrZero, upsert("c", id, bitsOf(t, 0)...))
		wantError(t, s, api.ErrNumber, upsert("c", id, 0x7f800000))
		wantError(t, s, api.ErrDim, upsert("c", id), upsert("c", id, 0x7f800000, 0))
		wantError(t, s, api.ErrName, upsert("e", id, bitsOf(t, 2)...))
	}
	for i := range api.MaxVectors {
		wantDone(t, s, upsert("c", 3*i, bitsOf(t, 2)...))
		wantAnswer(t, s, get("c", 3*i), ok+numbersOf(bitsOf(t, 2)))
	}
	wantDone(t, s, upsert("d", 1, bitsOf(t, 2)...), remove("c", 27), upsert("c", 0xffff, bitsOf(t, 3)...))
	wantError(t, s, api.ErrFull, upsert("c", 27, bitsOf(t, 2)...))
	wantDone(t, s, remove("c", 0xffff), upsert("c", 27, bitsOf(t, 2)...))
	wantError(t, s, api.ErrFull, upsert("c", 0xffff, bitsOf(t, 2)...))
	wantDone(t, s, drop("c"), create("c", 1, api.Angle, api.Plain), upsert("c", 0xffff, bitsOf(t, 2)...))
}

// TestSame: P10, all of them, rising, by bits and not by what numbers are worth.
func TestSame(t *testing.T) {
	s := newStore(t)
	wantDone(t, s, create("c", 2, api.Square, api.Plain))
	one, other := bitsOf(t, 0, 1), bitsOf(t, minusNought, 1)
	wantAnswer(t, s, same("c", one...), ok)
	for _, id := range []int{0xffff, 5, 256, 0, 255} {
		wantDone(t, s, upsert("c", id, one...))
	}
	for _, id := range []int{1, 0x8000} {
		wantDone(t, s, upsert("c", id, other...))
	}
	wantDone(t, s, upsert("c", 3, bitsOf(t, 1, 0)...), upsert("c", 4, bitsOf(t, 0, 1+0x1p-23)...))
	wantAnswer(t, s, same("c", one...), ok+ids(0, 5, 255, 256, 0xffff))
	wantAnswer(t, s, same("c", other...), ok+ids(1, 0x8000))
	wantAnswer(t, s, same("c", bitsOf(t, 1, 0)...), ok+ids(3))
	wantAnswer(t, s, same("c", bitsOf(t, 1, 1)...), ok)
	wantDone(t, s, remove("c", 5), upsert("c", 255, other...))
	wantAnswer(t, s, same("c", one...), ok+ids(0, 256, 0xffff))
	wantAnswer(t, s, same("c", other...), ok+ids(1, 255, 0x8000))
}

func TestSameOfAFullCollection(t *testing.T) {
	for dimension := 1; dimension <= api.MaxDim; dimension++ {
		for place := range dimension {
			s := newStore(t)
			wantDone(t, s, create("c", dimension, api.Dot, api.Plain))
			one := slices.Repeat(bitsOf(t, 1), dimension)
			other := slices.Clone(one)
			other[place] ^= 1
			var want, wantOther []int
			for id := range api.MaxVectors {
				if id%3 == 0 {
					wantDone(t, s, upsert("c", id, other...))
					wantOther = append(wantOther, id)
				} else {
					wantDone(t, s, upsert("c", id, one...))
					want = append(want, id)
				}
			}
			wantAnswer(t, s, same("c", one...), ok+ids(want...))
			wantAnswer(t, s, same("c", other...), ok+ids(wantOther...))
		}
	}
}

// TestBitsComeBack: P11.
func TestBitsComeBack(t *testing.T) {
	vectors := [][]uint32{{0, 0x80000000}, {0x80000000, 0}, {0, 0}, {0x80000000, 0x80000000}, {1, 0x80000001}, {0x007fffff, 0x807fffff}, {0x00800000, 0x7f7fffff}, {0xff7fffff, 0x12345678}}
	for _, measure := range []int{api.Dot, api.Square} {
		s := newStore(t)
		wantDone(t, s, create("c", 2, measure, api.Kahan))
		for id, vector := range vectors {
			wantDone(t, s, upsert("c", id, vector...))
		}
		for id, vector := range vectors {
			wantAnswer(t, s, get("c", id), ok+numbersOf(vector))
			wantAnswer(t, s, same("c", vector...), ok+ids(id))
		}
	}
}
