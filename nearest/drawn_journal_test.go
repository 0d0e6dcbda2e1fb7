package nearest_test

import (
	"maps"
	"math/rand"
	"slices"
	"strings"
	"testing"

	"nearest/api"
	"nearest/nearest"
)

// drawnStore makes a store by drawn requests, and tells the records of its journal.
func drawnStore(t *testing.T, d *drawing, requests int) (*nearest.Store, modelStore, []string) {
	t.Helper()
	s, m := newStore(t), modelStore{}
	var records []string
	for range requests {
		request := d.request(m)
		var j modelJournal
		j.note(request, m.do(request))
		s.Do(request)
		if j != "" {
			records = append(records, string(j))
		}
	}
	return s, m, records
}

// TestDrawnJournals: P15, what a journal, a snapshot or a beginning leads to.
func TestDrawnJournals(t *testing.T) {
	for seed := range 30 {
		d := &drawing{Rand: rand.New(rand.NewSource(int64(seed))), kind: seed % 7}
		s, m, records := drawnStore(t, d, 50+d.Intn(200))
		journal, _ := s.Journal()
		if journal != strings.Join(records, "") {
			t.Fatalf("the journal is %x, want %x", journal, records)
		}
		snapshot, _ := s.Snapshot()
		wantSameAnswers(t, wantLoaded(t, journal, len(journal)).Do, s.Do)
		again := wantLoaded(t, snapshot, len(snapshot))
		wantSameAnswers(t, again.Do, m.do)
		wantSnapshot(t, again, snapshot)
		for range 20 {
			n := d.Intn(len(records))
			whole := strings.Join(records[:n], "")
			at, _ := modelLoad(whole)
			cut := records[n][:d.Intn(len(records[n]))]
			wantSameAnswers(t, wantLoaded(t, whole+cut, len(whole)).Do, at.do)
		}
	}
}

// otherRecords changes a list of records; each of them keeps its sum, and many are good where they then stand.
func (d *drawing) otherRecords(records []string) []string {
	out := slices.Clone(records)
	at, other := d.Intn(len(out)), d.Intn(len(out))
	switch d.Intn(5) {
	case 0:
		out[at], out[other] = out[other], out[at]
	case 1:
		out = slices.Delete(out, at, at+1)
	case 2:
		out = slices.Insert(out, at, out[other])
	case 3:
		out = slices.Insert(out, at, recordOf(d.request(modelStore{})))
	default:
		if request := out[at][2 : len(out[at])-4]; request != "" {
			out[at] = recordOf(d.spoilt(request))
		}
	}
	return out
}

// TestDrawnSpoiltJournals holds Load against the model.
func TestDrawnSpoiltJournals(t *testing.T) {
	whole, stopped := 0, 0
	for seed := range 30 {
		d := &drawing{Rand: rand.New(rand.NewSource(int64(seed))), kind: seed % 7}
		_, _, records := drawnStore(t, d, 200)
		for range 60 {
			others := records
			for range d.Intn(4) {
				others = d.otherRecords(others)
			}
			journal := strings.Join(others, "")
			if d.Intn(3) == 0 {
				journal = d.spoilt(journal)
			}
			want, n := modelLoad(journal)
			got := wantLoaded(t, journal, n)
			wantSnapshot(t, got, want.snapshot())
			if contents(got.Do) != contents(want.do) {
				t.Fatalf("the journal %x leads to %x, want %x", journal, contents(got.Do), contents(want.do))
			}
			if n == len(journal) {
				whole++
			} else {
				stopped++
			}
		}
	}
	if whole < 50 || stopped < 50 {
		t.Errorf("%d journals were taken up whole and %d were not: that is too few to tell", whole, stopped)
	}
}

// TestLoadOfAnyBytes: all strings are taken up as far as they go, which is mostly nowhere.
func TestLoadOfAnyBytes(t *testing.T) {
	r := rand.New(rand.NewSource(14))
	for range 20000 {
		bytes := make([]byte, r.Intn(40))
		for i := range bytes {
			bytes[i] = byte(r.Intn(5))
		}
		_, n := modelLoad(string(bytes))
		wantLoaded(t, string(bytes), n)
	}
	for _, b := range []string{"\x00", "\x01", "\xff"} {
		for _, n := range []int{1, 2, 5, 6, 7, 65535 + 5, 65535 + 6, 65535 + 7, 1 << 20} {
			wantLoaded(t, strings.Repeat(b, n), 0)
		}
	}
}

// wayTo makes the requests of one collection, in a drawn order and by detours.
func (d *drawing) wayTo(name string, c *modelCollection) []string {
	var out []string
	if d.Intn(2) == 0 {
		out = append(out, create(name, 1, api.Dot, api.Plain), upsert(name, 5, 1), drop(name))
	}
	out = append(out, create(name, c.dimension, c.measure, c.way))
	vector := func() []uint32 { return slices.Repeat([]uint32{1 + uint32(d.Intn(1000))}, c.dimension) }
	if d.Intn(2) == 0 {
		out = append(out, upsert(name, 999, vector()...), upsert(name, 99, vector()...), remove(name, 999), remove(name, 99))
	}
	ids := slices.Sorted(maps.Keys(c.vectors))
	d.Shuffle(len(ids), func(i, j int) { ids[i], ids[j] = ids[j], ids[i] })
	for _, id := range ids {
		laid := upsert(name, id, modelNumbers(c.vectors[id])...)
		switch d.Intn(4) {
		case 0:
			out = append(out, upsert(name, id, vector()...))
		case 1:
			out = append(out, laid, remove(name, id))
		case 2:
			out = append(out, laid)
		}
		out = append(out, laid)
	}
	return out
}

// history makes requests that lead to the collections of a model: their ways, mixed.
func (d *drawing) history(m modelStore) []string {
	var ways [][]string
	for _, name := range slices.Sorted(maps.Keys(m)) {
		ways = append(ways, d.wayTo(name, m[name]))
	}
	var out []string
	for len(ways) > 0 {
		i := d.Intn(len(ways))
		out = append(out, ways[i][0])
		if ways[i] = ways[i][1:]; len(ways[i]) == 0 {
			ways = slices.Delete(ways, i, i+1)
		}
	}
	return out
}

// TestSameStoresByOtherWays: P16.
func TestSameStoresByOtherWays(t *testing.T) {
	for seed := range 20 {
		d := &drawing{Rand: rand.New(rand.NewSource(int64(seed))), kind: seed % 7}
		first, m, _ := drawnStore(t, d, 300)
		wantSnapshot(t, first, m.snapshot())
		for range 5 {
			other := newStore(t)
			wantDone(t, other, d.history(m)...)
			wantSnapshot(t, other, m.snapshot())
			wantSameAnswers(t, other.Do, first.Do)
			journal, _ := other.Journal()
			wantSnapshot(t, wantLoaded(t, journal, len(journal)), m.snapshot())
		}
	}
}
