package nearest_test

import (
	"encoding/binary"
	"hash/crc32"
	"maps"
	"slices"
	"testing"

	"nearest/api"
	"nearest/nearest"
)

// A model of journals. Its sums are the library's.

func sumOf(bytes string) uint32 { return crc32.ChecksumIEEE([]byte(bytes)) }

func leastFirst(n uint32) string { return string(binary.LittleEndian.AppendUint32(nil, n)) }

func greatestFirst(n uint32) string { return string(binary.BigEndian.AppendUint32(nil, n)) }

func recordOf(request string) string {
	summed := twoBytes(len(request)) + request
	return summed + leastFirst(sumOf(summed))
}

func recordsOf(requests ...string) string {
	out := ""
	for _, request := range requests {
		out += recordOf(request)
	}
	return out
}

type modelJournal string

// note writes a request down, if its answer says that it changed something.
func (j *modelJournal) note(request, answer string) {
	if answer == ok && request != list && request[0] <= api.Delete {
		*j += modelJournal(recordOf(request))
	}
}

func (m modelStore) snapshot() string {
	out := ""
	for _, name := range slices.Sorted(maps.Keys(m)) {
		c := m[name]
		out += recordOf(create(name, c.dimension, c.measure, c.way))
		for _, id := range slices.Sorted(maps.Keys(c.vectors)) {
			out += recordOf(upsert(name, id, modelNumbers(c.vectors[id])...))
		}
	}
	return out
}

// modelLoad takes a journal up, record by record.
func modelLoad(journal string) (modelStore, int) {
	m, at := modelStore{}, 0
	for at+2 <= len(journal) {
		end := at + 2 + int(binary.BigEndian.Uint16([]byte(journal[at:])))
		if end+4 > len(journal) || sumOf(journal[at:end]) != binary.LittleEndian.Uint32([]byte(journal[end:])) {
			break
		}
		request := journal[at+2 : end]
		if request == "" || request[0] > api.Delete || m.do(request) != ok {
			break
		}
		at = end + 4
	}
	return m, at
}

func wantJournal(t *testing.T, s *nearest.Store, want string) {
	t.Helper()
	if got, e := s.Journal(); got != want || e != api.OK {
		t.Errorf("Journal() = %x, %d, want %x", got, e, want)
	}
}

func wantSnapshot(t *testing.T, s *nearest.Store, want string) {
	t.Helper()
	if got, e := s.Snapshot(); got != want || e != api.OK {
		t.Errorf("Snapshot() = %x, %d, want %x", got, e, want)
	}
}

// wantLoaded asks that just so many bytes are taken up, and that they are the store's journal.
func wantLoaded(t *testing.T, journal string, want int) *nearest.Store {
	t.Helper()
	s, n := nearest.Load(journal)
	if s == nil {
		t.Fatalf("Load(%.300x) gives nil", journal)
	}
	if n != want {
		t.Errorf("Load(%.300x) takes %d bytes up, want %d", journal, n, want)
	}
	wantJournal(t, s, journal[:want])
	return s
}

// wantSameAnswers asks two stores whatever changes nothing.
func wantSameAnswers(t *testing.T, do, other func(string) string) {
	t.Helper()
	if got, want := contents(do), contents(other); got != want {
		t.Fatalf("a store tells %x, another %x", got, want)
	}
	for _, request := range readings(other) {
		if got, want := do(request), other(request); got != want {
			t.Fatalf("Do(%x) of a store = %x, of another %x", request, got, want)
		}
	}
}

// readings are searches and questions for same vectors, of vectors that are there.
func readings(do func(string) string) []string {
	var out []string
	for left := do(list)[1:]; left != ""; {
		end := 1 + int(left[0])
		name := left[1:end]
		for id := range 12 {
			vector := modelNumbers(do(get(name, id))[1:])
			out = append(out, same(name, vector...), search(name, 255, 20, vector...), search(name, 3, 10, vector...))
		}
		left = left[end+4:]
	}
	return out
}
