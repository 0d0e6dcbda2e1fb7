package nearest

import (
	"nearest/api"
	"nearest/collection"
	"nearest/wire"
)

func refusal(e api.Errno) string { return string([]byte{byte(e)}) }

// perform does what a request says; it gives what stands behind OK in the answer.
func (s *Store) perform(q wire.Request) ([]byte, api.Errno) {
	switch q.Kind {
	case api.Create:
		return nil, s.collections.Create(q.Name, q.Dimension, q.Measure, q.Way)
	case api.Drop:
		return nil, s.collections.Drop(q.Name)
	case api.List:
		return tellCollections(s.collections.All()), api.OK
	}
	c := s.collections.Find(q.Name)
	if c == nil {
		return nil, api.ErrName
	}
	return performWithin(c, q)
}

// performWithin does a request that is about the vectors of a collection.
func performWithin(c *collection.Collection, q wire.Request) ([]byte, api.Errno) {
	switch q.Kind {
	case api.Upsert:
		return nil, c.Upsert(q.ID, q.Numbers)
	case api.Delete:
		return nil, c.Delete(q.ID)
	case api.Get:
		numbers, e := c.Get(q.ID)
		return wire.AppendNumbers(nil, numbers...), e
	case api.Search:
		hits, e := c.Search(q.Numbers, q.Count, q.Budget)
		return tellHits(hits), e
	default:
		ids, e := c.Same(q.Numbers)
		return tellIDs(ids), e
	}
}

func tellCollections(all []*collection.Collection) []byte {
	var told []byte
	for _, c := range all {
		told = wire.AppendName(told, c.Name)
		told = append(told, byte(c.Dimension), byte(c.Measure), byte(c.Way), byte(c.Len()))
	}
	return told
}

func tellHits(hits []collection.Hit) []byte {
	var told []byte
	for _, hit := range hits {
		told = wire.AppendID(told, hit.ID)
		told = append(told, overflowByte(hit.Overflows))
		told = wire.AppendNumbers(told, hit.Bits)
	}
	return told
}

func overflowByte(overflows bool) byte {
	if overflows {
		return 1
	}
	return 0
}

func tellIDs(ids []uint16) []byte {
	var told []byte
	for _, id := range ids {
		told = wire.AppendID(told, id)
	}
	return told
}
