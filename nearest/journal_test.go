package nearest_test

import (
	"math/rand"
	"slices"
	"strings"
	"testing"

	"nearest/api"
	"nearest/nearest"
)

// TestBytesOfRecords: P12, byte for byte.
func TestBytesOfRecords(t *testing.T) {
	s := newStore(t)
	journal := ""
	for _, of := range []struct{ request, record string }{
		{"\x01\x01a\x02\x01\x01", "\x00\x06\x01\x01\x61\x02\x01\x01\x99\x55\xcc\x1e"},
		{"\x03\x01a\x01\x02\x3f\x80\x00\x00\x80\x00\x00\x00", "\x00\x0d\x03\x01\x61\x01\x02\x3f\x80\x00\x00\x80\x00\x00\x00\x45\x44\x8a\x2f"},
		{"\x04\x01a\x01\x02", "\x00\x05\x04\x01\x61\x01\x02\x12\x7e\x9d\x3e"},
		{"\x02\x01a", "\x00\x03\x02\x01\x61\x12\xec\xbd\xf4"},
	} {
		wantDone(t, s, of.request)
		journal += of.record
		wantJournal(t, s, journal)
	}
	wantJournal(t, wantLoaded(t, journal, len(journal)), journal)
}

func TestEmptyStoreHasEmptyJournal(t *testing.T) {
	s := newStore(t)
	wantJournal(t, s, "")
	wantSnapshot(t, s, "")
	wantError(t, s, api.ErrName, drop("a"), remove("a", 0))
	wantError(t, s, api.ErrRequest, "", "\x09")
	wantAnswer(t, s, list, ok)
	wantJournal(t, s, "")
	wantSnapshot(t, s, "")
	wantAnswer(t, wantLoaded(t, "", 0), list, ok)
}

func TestNilStoreHasNoJournal(t *testing.T) {
	var none *nearest.Store
	if got, e := none.Journal(); got != "" || e != api.ErrNil {
		t.Errorf("Journal() of nil = %x, %d, want ErrNil", got, e)
	}
	if got, e := none.Snapshot(); got != "" || e != api.ErrNil {
		t.Errorf("Snapshot() of nil = %x, %d, want ErrNil", got, e)
	}
}

// TestJournalHoldsWhatIsAnsweredOK: in order, also what lays down what stood there before; and nothing else.
func TestJournalHoldsWhatIsAnsweredOK(t *testing.T) {
	s := newStore(t)
	one, two := bitsOf(t, 1), bitsOf(t, 2)
	done := []string{
		create("b", 1, api.Angle, api.Kahan), create("a", 1, api.Dot, api.Plain), upsert("b", 9, one...), upsert("a", 3, two...), upsert("b", 9, one...), upsert("b", 9, two...),
		remove("a", 3), drop("a"), create("a", 1, api.Dot, api.Plain), upsert("a", 3, one...), upsert("b", 3, one...), drop("a"), remove("b", 3), upsert("b", 3, one...),
	}
	for i, request := range done {
		wantDone(t, s, request)
		wantJournal(t, s, recordsOf(done[:i+1]...))
		for _, reading := range []string{list, get("b", 3), get("b", 9), search("b", 1, 9, one...), same("b", one...)} {
			s.Do(reading)
		}
		for _, wrong := range []string{
			"", "\x00", "\x09", list + list, create("c", 1, 0, 1), create("c", 0, 1, 1), create("b", 1, api.Dot, api.Plain), drop("c"), upsert("c", 1, one...), upsert("b", 1), upsert("b", 1, 0x7f800000),
			upsert("b", 1, 0), remove("c", 1), remove("b", 1), get("c", 1), get("b", 1), search("b", 0, 9, one...), same("b"), request + "\x00", request[1:],
		} {
			if answer := s.Do(wrong); answer == ok {
				t.Errorf("Do(%x) is OK", wrong)
			}
		}
		wantJournal(t, s, recordsOf(done[:i+1]...))
	}
}

func TestJournalWithoutWhatIsTooMuch(t *testing.T) {
	s := newStore(t)
	var done []string
	for name := range api.MaxCollections {
		done = append(done, create(oneByte(name), 1, api.Dot, api.Plain))
	}
	for id := range api.MaxVectors {
		done = append(done, upsert("\x00", id, bitsOf(t, 1)...))
	}
	wantDone(t, s, done...)
	wantError(t, s, api.ErrMany, create("\x09", 1, api.Dot, api.Plain))
	wantError(t, s, api.ErrFull, upsert("\x00", api.MaxVectors, bitsOf(t, 1)...))
	wantJournal(t, s, recordsOf(done...))
	wantSnapshot(t, s, recordsOf(done[0])+recordsOf(done[4:]...)+recordsOf(done[1:4]...))
	all := recordsOf(done...)
	wantLoaded(t, all+recordsOf(create("\x09", 1, api.Dot, api.Plain), drop("\x00")), len(all))
	wantLoaded(t, all+recordsOf(upsert("\x00", api.MaxVectors, bitsOf(t, 1)...), drop("\x00")), len(all))
}

// TestSnapshot: P13, collections as List orders them, ids rising, and nothing of what is gone.
func TestSnapshot(t *testing.T) {
	s := newStore(t)
	wantDone(t, s, create("b", 2, api.Square, api.Pairs), create("\xff", 8, api.Dot, api.Plain), create("ab", 1, api.Angle, api.Kahan), create("a", 3, api.Dot, api.Kahan))
	for _, id := range []int{0xffff, 256, 1, 0, 255, 0x8000} {
		wantDone(t, s, upsert("b", id, uint32(id), 1<<31))
	}
	wantDone(t, s, upsert("ab", 2, bitsOf(t, 1)...), upsert("ab", 1, bitsOf(t, 2)...), remove("ab", 2), upsert("b", 1, 1<<31, 0), remove("b", 0x8000))
	wantDone(t, s, drop("\xff"), create("\xff", 8, api.Square, api.Kahan), upsert("\xff", 7, 1, 2, 3, 4, 5, 6, 7, 8))
	before := view(s)
	want := recordsOf(
		create("a", 3, api.Dot, api.Kahan),
		create("ab", 1, api.Angle, api.Kahan), upsert("ab", 1, bitsOf(t, 2)...),
		create("b", 2, api.Square, api.Pairs), upsert("b", 0, 0, 1<<31), upsert("b", 1, 1<<31, 0), upsert("b", 255, 255, 1<<31), upsert("b", 256, 256, 1<<31), upsert("b", 0xffff, 0xffff, 1<<31),
		create("\xff", 8, api.Square, api.Kahan), upsert("\xff", 7, 1, 2, 3, 4, 5, 6, 7, 8),
	)
	wantSnapshot(t, s, want)
	wantSnapshot(t, s, want)
	if after := view(s); after != before {
		t.Errorf("Snapshot changed the store from %x to %x", before, after)
	}
	loaded := wantLoaded(t, want, len(want))
	wantSnapshot(t, loaded, want)
	wantSameAnswers(t, loaded.Do, s.Do)
	wantDone(t, s, drop("a"), drop("b"), drop("ab"), drop("\xff"))
	wantSnapshot(t, s, "")
}

func TestSnapshotOfEachForm(t *testing.T) {
	for dimension := 1; dimension <= api.MaxDim; dimension++ {
		for _, measure := range measures {
			for _, way := range ways {
				name := strings.Repeat("n", dimension+2)
				done := []string{create(name, dimension, measure, way)}
				for id := range api.MaxVectors {
					done = append(done, upsert(name, id, slices.Repeat([]uint32{uint32(id + 1)}, dimension)...))
				}
				s := newStore(t)
				wantDone(t, s, done...)
				wantSnapshot(t, s, recordsOf(done...))
				wantSnapshot(t, wantLoaded(t, recordsOf(done...), len(recordsOf(done...))), recordsOf(done...))
			}
		}
	}
}

// told is requests that make up a store, all of them answered OK.
func told(t *testing.T) []string {
	t.Helper()
	return []string{
		create("ab", 2, api.Dot, api.Plain), upsert("ab", 7, bitsOf(t, 1, 2)...), create("\x03\x01", 1, api.Angle, api.Kahan), upsert("ab", 256, bitsOf(t, 3, 4)...),
		upsert("\x03\x01", 0, bitsOf(t, 5)...), upsert("ab", 7, bitsOf(t, 0, minusNought)...), remove("ab", 256), create("c", 8, api.Square, api.Pairs), upsert("c", 0xffff, 1, 2, 3, 4, 5, 6, 7, 8),
		drop("\x03\x01"), create("\x03\x01", 3, api.Square, api.Plain), upsert("\x03\x01", 1, bitsOf(t, 5, 6, 7)...), upsert("c", 3, 1, 2, 3, 4, 5, 6, 7, 8),
	}
}

// TestLoadOfBeginnings: P14 and P15, cut anywhere, it is the store at the moment of the last record that is whole.
func TestLoadOfBeginnings(t *testing.T) {
	s := newStore(t)
	journal := ""
	for _, request := range told(t) {
		next := recordOf(request)
		for cut := range len(next) {
			wantSameAnswers(t, wantLoaded(t, journal+next[:cut], len(journal)).Do, s.Do)
		}
		wantDone(t, s, request)
		journal += next
		wantSameAnswers(t, wantLoaded(t, journal, len(journal)).Do, s.Do)
	}
}

// TestLoadedStoresGoOn: the journal goes on behind what was loaded, and stores have nothing to do with one another.
func TestLoadedStoresGoOn(t *testing.T) {
	journal := recordsOf(told(t)...)
	first, second := wantLoaded(t, journal, len(journal)), wantLoaded(t, journal+"\x00\x01left", len(journal))
	wantDone(t, first, drop("c"), create("c", 1, api.Dot, api.Plain))
	wantError(t, first, api.ErrTaken, create("c", 1, api.Dot, api.Plain))
	wantDone(t, second, upsert("c", 4, 8, 7, 6, 5, 4, 3, 2, 1))
	wantJournal(t, first, journal+recordsOf(drop("c"), create("c", 1, api.Dot, api.Plain)))
	wantJournal(t, second, journal+recordsOf(upsert("c", 4, 8, 7, 6, 5, 4, 3, 2, 1)))
	again, _ := first.Journal()
	wantSameAnswers(t, wantLoaded(t, again, len(again)).Do, first.Do)
	wantAnswer(t, second, get("c", 3), ok+numbersOf([]uint32{1, 2, 3, 4, 5, 6, 7, 8}))
	wantAnswer(t, first, get("c", 3), "\x0a")
	wantJournal(t, wantLoaded(t, journal, len(journal)), journal)
}

// wantStopped asks that a journal is taken up as far as bytes that are no good record, though good ones follow.
func wantStopped(t *testing.T, bytes ...string) {
	t.Helper()
	good := recordsOf(told(t)...)
	want := newStore(t)
	wantDone(t, want, told(t)...)
	for _, bad := range bytes {
		for _, behind := range []string{"", recordsOf(drop("c")), recordsOf(drop("c"), drop("ab"), create("a", 1, api.Dot, api.Plain))} {
			wantSameAnswers(t, wantLoaded(t, good+bad+behind, len(good)).Do, want.Do)
		}
	}
}

// TestLoadStopsAtRequests: at those that change nothing, are refused or are none, though their sums are right.
func TestLoadStopsAtRequests(t *testing.T) {
	for _, request := range []string{
		list, get("ab", 7), search("ab", 1, 9, bitsOf(t, 1, 2)...), same("ab", bitsOf(t, 1, 2)...),
		get("none", 7), search("ab", 0, 0), same("ab"), search("none", 1, 1),
		create("new", 1, 0, 1), create("new", 1, 1, 4), create("new", 0, 1, 1), create("new", 9, 1, 1), create("ab", 2, api.Dot, api.Plain),
		drop("none"), upsert("none", 1, bitsOf(t, 1)...), upsert("ab", 1), upsert("ab", 1, bitsOf(t, 1)...), upsert("ab", 1, bitsOf(t, 1, 2, 3)...), upsert("ab", 1, 0x7f800000, 0),
		remove("none", 7), remove("ab", 8), remove("ab", 256),
		"", "\x00", "\x01", "\x09", "\xff", "junk", create("", 1, 1, 1), create("elevenbytes", 1, 1, 1), drop("c") + "\x00", create("new", 1, 1, 1)[:6], upsert("ab", 1, bitsOf(t, 1, 2)...) + "\x00", remove("ab", 7) + "\x00", remove("ab", 7)[:5],
		recordOf(drop("c")), strings.Repeat("z", 65535), strings.Repeat("\x03", 65535), upsert("ab", 1, make([]uint32, 16000)...),
	} {
		wantStopped(t, recordOf(request))
	}
}

func TestLoadStopsAtNoughtVectors(t *testing.T) {
	journal := recordsOf(create("a", 1, api.Angle, api.Plain), upsert("a", 1, bitsOf(t, 1)...))
	wantLoaded(t, journal+recordsOf(upsert("a", 1, 0), drop("a")), len(journal))
	wantLoaded(t, journal+recordsOf(upsert("a", 2, 1<<31), drop("a")), len(journal))
}

// TestLoadStopsAtSums: that are other ones than a record's, of a request that would be done.
func TestLoadStopsAtSums(t *testing.T) {
	for _, request := range []string{drop("c"), upsert("ab", 7, bitsOf(t, 5, 6)...), remove("ab", 7)} {
		summed := twoBytes(len(request)) + request
		right := sumOf(summed)
		for _, wrong := range []string{
			greatestFirst(right), leastFirst(^right), leastFirst(right + 1), leastFirst(0), leastFirst(sumOf(request)), leastFirst(sumOf(request + twoBytes(len(request)))), "\xff\xff\xff\xff",
		} {
			wantStopped(t, summed+wrong)
		}
		for bit := range 32 {
			wantStopped(t, summed+leastFirst(right^1<<bit))
		}
	}
}

// TestLoadStopsAtLengths: that are laid down in another way, or are not those of the bytes that follow.
func TestLoadStopsAtLengths(t *testing.T) {
	request := upsert("ab", 7, bitsOf(t, 5, 6)...)
	n := len(request)
	for _, length := range []string{"", oneByte(n), twoBytes(n << 8), twoBytes(n - 1), twoBytes(n + 1), twoBytes(n + 4), twoBytes(n + 6), twoBytes(0), twoBytes(65535), "\x00\x00" + twoBytes(n)} {
		summed := length + request
		wantStopped(t, summed+leastFirst(sumOf(summed)))
	}
	wantStopped(t, "\x00", "\x00\x00", "\x00\x00\x00\x00\x00\x00", "\xff", "\xff\xff", strings.Repeat("\xff", 70000))
}

// TestTurnedBytes: P15, up to four bytes that stand together in a request, in each record.
func TestTurnedBytes(t *testing.T) {
	r := rand.New(rand.NewSource(15))
	requests := told(t)
	for i, request := range requests {
		ahead, behind := recordsOf(requests[:i]...), recordsOf(requests[i+1:]...)
		first := len(ahead) + 2
		journal := []byte(ahead + recordOf(request) + behind)
		wantTurned := func(at int, by ...byte) {
			turned := slices.Clone(journal)
			for k, b := range by {
				turned[first+at+k] ^= b
			}
			if _, n := nearest.Load(string(turned)); n != len(ahead) {
				t.Fatalf("with bytes of the record %d turned from %x to %x, %d bytes are taken up, want %d", i, journal, turned, n, len(ahead))
			}
		}
		for at := range request {
			for b := 1; b < 256; b++ {
				wantTurned(at, byte(b))
			}
		}
		for n := 2; n <= min(4, len(request)); n++ {
			for at := range len(request) - n + 1 {
				for range 100 {
					by := make([]byte, n)
					r.Read(by)
					by[r.Intn(n)] |= 1
					wantTurned(at, by...)
				}
			}
		}
	}
}

// TestLongJournals: longer than any record can be.
func TestLongJournals(t *testing.T) {
	s := newStore(t)
	requests := []string{create("c", 8, api.Square, api.Plain)}
	for i := range 6000 {
		requests = append(requests, upsert("c", i%7, 1, 2, 3, 4, 5, 6, 7, uint32(i)))
	}
	wantDone(t, s, requests...)
	journal, _ := s.Journal()
	if journal != recordsOf(requests...) {
		t.Fatalf("a journal of %d bytes is not that of %d requests", len(journal), len(requests))
	}
	wantSameAnswers(t, wantLoaded(t, journal, len(journal)).Do, s.Do)
	wantSnapshot(t, wantLoaded(t, journal[:len(journal)-1], len(journal)-len(recordOf(requests[1]))), recordsOf(requests[0])+recordsOf(requests[6000-7:6000]...))
}
