// Package nearest: vectors, and which of them are nearest: see DOC.md.
package nearest

import (
	"nearest/api"
	"nearest/check"
	"nearest/collection"
	"nearest/order"
	"nearest/record"
	"nearest/score"
	"nearest/wire"
)

// Store is collections of vectors, and the journal of what made them.
type Store struct {
	collections collection.Set
	journal     []byte
}

// Score tells what the numbers of two vectors come to, rounded step by step (P3).
func Score(measure int, way int, a []uint32, b []uint32) (uint32, bool, api.Errno) {
	if !check.Measure(measure) || !check.Way(way) {
		return 0, false, api.ErrKind
	}
	if e := check.Vectors(a, b); e != api.OK {
		return 0, false, e
	}
	bits, overflows := score.Of(measure, way, a, b)
	return bits, overflows, api.OK
}

// Compare tells which of two vectors is nearer to another (P4).
func Compare(measure int, q []uint32, a []uint32, b []uint32) (int, api.Errno) {
	if !check.Measure(measure) {
		return 0, api.ErrKind
	}
	if e := check.Vectors(q, a, b); e != api.OK {
		return 0, e
	}
	if e := check.Noughts(measure, q, a, b); e != api.OK {
		return 0, e
	}
	return order.Compare(measure, q, a, b), api.OK
}

// New makes an empty store (P5).
func New() *Store { return &Store{} }

// Do does a request (P6).
func (s *Store) Do(request string) (answer string) {
	if s == nil {
		return refusal(api.ErrNil)
	}
	defer func() {
		if given := recover(); given != nil {
			if _, fault := given.(wire.Fault); !fault {
				panic(given)
			}
			answer = refusal(api.ErrRequest)
		}
	}()
	q := wire.Read(request)
	told, e := s.perform(q)
	if e != api.OK {
		return refusal(e)
	}
	if changes(q.Kind) {
		s.journal = append(s.journal, record.Of(request)...)
	}
	return string(append([]byte{byte(api.OK)}, told...))
}

// Journal tells all changes (P12).
func (s *Store) Journal() (string, api.Errno) {
	if s == nil {
		return "", api.ErrNil
	}
	return string(s.journal), api.OK
}

// Snapshot tells all that there is (P13).
func (s *Store) Snapshot() (string, api.Errno) {
	if s == nil {
		return "", api.ErrNil
	}
	return writeAnew(s.collections.All()), api.OK
}

// Load takes a journal up (P14). What is taken up stands in the store's journal, byte for byte, so that one's length is how far it has come.
func Load(journal string) (*Store, int) {
	s := New()
	for s.takeUp(journal[len(s.journal):]) {
	}
	return s, len(s.journal)
}
