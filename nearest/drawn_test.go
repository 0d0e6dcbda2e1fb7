package nearest_test

import (
	"math/rand"
	"slices"
	"strings"
	"testing"

	"nearest/api"
)

// drawing makes requests that hit and miss what is there.
type drawing struct {
	*rand.Rand
	kind int                        // of numbers
	some [api.MaxDim + 1][][]uint32 // earlier vectors, by their dimension
}

func (d *drawing) one(of ...string) string { return of[d.Intn(len(of))] }

func (d *drawing) name() string { return d.one("a", "ab", "b", "\xff", "\x00") }

func (d *drawing) id() int {
	if d.Intn(4) == 0 {
		return []int{255, 256, 257, 0xffff}[d.Intn(4)]
	}
	return d.Intn(24)
}

// byteUpTo makes a byte that is mostly 1 to most, and a wrong one at times.
func (d *drawing) byteUpTo(most int) int {
	if d.Intn(12) == 0 {
		return []int{0, most + 1, 255}[d.Intn(3)]
	}
	return 1 + d.Intn(most)
}

// numbers makes vectors many of which are the same as earlier ones, or as near.
func (d *drawing) numbers(dimension int) []uint32 {
	list := drawVector(d.Rand, dimension, d.kind)
	if some := d.some[dimension]; len(some) < 3 {
		d.some[dimension] = append(some, slices.Clone(list))
	} else if d.Intn(4) > 0 {
		list = slices.Clone(some[d.Intn(len(some))])
		if d.Intn(3) == 0 {
			list = drawBeside(d.Rand, list)
		}
	}
	switch d.Intn(30) {
	case 0:
		clear(list)
	case 1:
		list[d.Intn(len(list))] |= 0x7f800000
	case 2:
		return list[1:]
	case 3:
		return append(list, list[0])
	}
	return list
}

func (d *drawing) request(m modelStore) string {
	name, dimension := d.name(), 2
	if c := m[name]; c != nil {
		dimension = c.dimension
	}
	switch k := d.Intn(40); {
	case k < 3:
		return create(name, d.byteUpTo(3), d.byteUpTo(3), d.byteUpTo(3))
	case k < 4 && d.Intn(3) == 0:
		return drop(name)
	case k < 24:
		return upsert(name, d.id(), d.numbers(dimension)...)
	case k < 26:
		return remove(name, d.id())
	case k < 28:
		return get(name, d.id())
	case k < 34:
		return search(name, d.byteUpTo(25), d.Intn(60), d.numbers(dimension)...)
	case k < 38:
		return same(name, d.numbers(dimension)...)
	}
	return list
}

func (d *drawing) spoilt(request string) string {
	at := d.Intn(len(request))
	switch d.Intn(4) {
	case 0:
		return request[:at]
	case 1:
		return request[:at] + request[at+1:]
	case 2:
		return request[:at] + oneByte(d.Intn(256)) + request[at:]
	}
	return request[:at] + oneByte(d.Intn(256)) + request[at+1:]
}

// TestDrawnRequests holds stores against the model, request by request.
func TestDrawnRequests(t *testing.T) {
	answers := map[api.Errno]int{}
	told, oneThing := map[byte]int{}, map[byte]int{api.Search: 7, api.Same: 2, api.List: 7}
	for seed := range 60 {
		d := &drawing{Rand: rand.New(rand.NewSource(int64(seed))), kind: seed % 7}
		s, m, j := newStore(t), modelStore{}, modelJournal("")
		for range 400 {
			request := d.request(m)
			if d.Intn(15) == 0 {
				request = d.spoilt(request)
			}
			want := m.do(request)
			if got := s.Do(request); got != want {
				t.Fatalf("Do(%x) = %x, want %x", request, got, want)
			}
			j.note(request, want)
			if d.Intn(10) == 0 {
				wantJournal(t, s, string(j))
				wantSnapshot(t, s, m.snapshot())
			}
			answers[api.Errno(want[0])]++
			if want[0] == 0 && len(want) > 1+oneThing[request[0]] {
				told[request[0]]++
			}
		}
	}
	for e := api.ErrRequest; e <= api.ErrBudget; e++ {
		if answers[e] < 20 {
			t.Errorf("only %d requests were answered with the error %d: that is too few to tell", answers[e], e)
		}
	}
	for kind := range oneThing {
		if told[kind] < 50 {
			t.Errorf("only %d requests of the kind %d told more than one thing: that is too few to tell", told[kind], kind)
		}
	}
}

// TestDrawnBytes: all bytes are answered, and as the model answers them.
func TestDrawnBytes(t *testing.T) {
	r := rand.New(rand.NewSource(6))
	s, m := newStore(t), modelStore{}
	for range 100000 {
		bytes := make([]byte, r.Intn(24))
		for i := range bytes {
			bytes[i] = byte(r.Intn(4))
		}
		if len(bytes) > 0 {
			bytes[0] = byte(r.Intn(10))
		}
		request := string(bytes)
		want := m.do(request)
		if got := s.Do(request); got != want {
			t.Fatalf("Do(%x) = %x, want %x", request, got, want)
		}
	}
	for _, request := range []string{strings.Repeat("\x00", 1<<20), strings.Repeat("\x01", 1<<20), strings.Repeat("\xff", 1<<20), "\x07\x01\x01" + strings.Repeat("\x01", 1<<20)} {
		want := m.do(request)
		if got := s.Do(request); got != want {
			t.Errorf("Do of %d times %x = %x, want %x", len(request), request[:1], got, want)
		}
	}
}
