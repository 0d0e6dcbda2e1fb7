package nearest_test

import (
	"strings"
	"testing"

	"nearest/api"
	"nearest/nearest"
)

// What requests are made of. The builders ask nothing: they make wrong requests too.

func oneByte(n int) string { return string([]byte{byte(n)}) }

func twoBytes(n int) string { return string([]byte{byte(n >> 8), byte(n)}) }

func numbersOf(list []uint32) string {
	var out strings.Builder
	for _, bits := range list {
		out.WriteString(twoBytes(int(bits >> 16)))
		out.WriteString(twoBytes(int(bits & 0xffff)))
	}
	return out.String()
}

func nameOf(name string) string { return oneByte(len(name)) + name }

func create(name string, dimension, measure, way int) string {
	return oneByte(api.Create) + nameOf(name) + oneByte(dimension) + oneByte(measure) + oneByte(way)
}

func drop(name string) string { return oneByte(api.Drop) + nameOf(name) }

func upsert(name string, id int, numbers ...uint32) string {
	return oneByte(api.Upsert) + nameOf(name) + twoBytes(id) + numbersOf(numbers)
}

func remove(name string, id int) string { return oneByte(api.Delete) + nameOf(name) + twoBytes(id) }

func get(name string, id int) string { return oneByte(api.Get) + nameOf(name) + twoBytes(id) }

func search(name string, count, budget int, numbers ...uint32) string {
	return oneByte(api.Search) + nameOf(name) + oneByte(count) + twoBytes(budget) + numbersOf(numbers)
}

func same(name string, numbers ...uint32) string {
	return oneByte(api.Same) + nameOf(name) + numbersOf(numbers)
}

const (
	list = "\x08"
	ok   = "\x00"
)

func hit(id int, bits uint32) string { return twoBytes(id) + ok + numbersOf([]uint32{bits}) }

func overflowingHit(id int) string { return twoBytes(id) + "\x01\x00\x00\x00\x00" }

func ids(list ...int) string {
	out := ""
	for _, id := range list {
		out += twoBytes(id)
	}
	return out
}

func newStore(t *testing.T) *nearest.Store {
	t.Helper()
	s := nearest.New()
	if s == nil {
		t.Fatal("New gives nil")
	}
	return s
}

func wantAnswer(t *testing.T, s *nearest.Store, request, want string) {
	t.Helper()
	if got := s.Do(request); got != want {
		t.Errorf("Do(%x) = %x, want %x", request, got, want)
	}
}

// wantDone asks that requests are answered OK alone.
func wantDone(t *testing.T, s *nearest.Store, requests ...string) {
	t.Helper()
	for _, request := range requests {
		wantAnswer(t, s, request, ok)
	}
}

// wantError asks for an error alone, and that nothing changes.
func wantError(t *testing.T, s *nearest.Store, e api.Errno, requests ...string) {
	t.Helper()
	for _, request := range requests {
		before := view(s)
		wantAnswer(t, s, request, oneByte(int(e)))
		if after := view(s); after != before {
			t.Errorf("Do(%x) changed the store from %x to %x", request, before, after)
		}
	}
}

// view is all that a store tells of itself: what is there, and how it came to be.
func view(s *nearest.Store) string {
	journal, _ := s.Journal()
	snapshot, _ := s.Snapshot()
	return contents(s.Do) + "/" + snapshot + "/" + journal
}

// contents is what a store answers of its collections, and of the ids that these tests take.
func contents(do func(string) string) string {
	told := do(list)
	out := told
	for left := told[1:]; left != ""; {
		end := 1 + int(left[0])
		name := left[1:end]
		for id := range 32 {
			out += "/" + do(get(name, id))
		}
		for _, id := range []int{255, 256, 257, 0x8000, 0xffff} {
			out += "/" + do(get(name, id))
		}
		left = left[end+4:]
	}
	return out
}
