package nearest_test

import (
	"maps"
	"slices"
	"strings"

	"nearest/api"
	"nearest/nearest"
)

// A model of stores. It asks for the form of a request by its length, keeps all in maps, and puts a vector in its place by counting those that go ahead of it.

type modelCollection struct {
	dimension, measure, way int
	vectors                 map[int]string // the numbers' bytes
}

type modelStore map[string]*modelCollection

// modelLength tells how many bytes a request has, of a name of so many; with numbers if they may follow.
func modelLength(kind, name int) (length int, numbers bool, known bool) {
	switch kind {
	case api.Create:
		return 5 + name, false, true
	case api.Drop:
		return 2 + name, false, true
	case api.Upsert:
		return 4 + name, true, true
	case api.Delete, api.Get:
		return 4 + name, false, true
	case api.Search:
		return 5 + name, true, true
	case api.Same:
		return 2 + name, true, true
	}
	return 0, false, false
}

func wellFormed(request string) bool {
	if request == list {
		return true
	}
	if len(request) < 2 || request[1] < 1 || request[1] > api.MaxName {
		return false
	}
	length, numbers, known := modelLength(int(request[0]), int(request[1]))
	behind := len(request) - length
	return known && (behind == 0 || numbers && behind > 0 && behind%4 == 0)
}

func modelNumbers(bytes string) []uint32 {
	var out []uint32
	for i := 0; i < len(bytes); i += 4 {
		out = append(out, uint32(bytes[i])<<24|uint32(bytes[i+1])<<16|uint32(bytes[i+2])<<8|uint32(bytes[i+3]))
	}
	return out
}

func (m modelStore) do(request string) string {
	told, e := m.answer(request)
	if e != api.OK {
		return oneByte(int(e))
	}
	return ok + told
}

func (m modelStore) answer(request string) (string, api.Errno) {
	if !wellFormed(request) {
		return "", api.ErrRequest
	}
	if request == list {
		return m.list(), api.OK
	}
	kind, name, rest := int(request[0]), request[2:2+request[1]], request[2+request[1]:]
	if kind == api.Create {
		return "", m.create(name, int(rest[0]), int(rest[1]), int(rest[2]))
	}
	c := m[name]
	if c == nil {
		return "", api.ErrName
	}
	switch kind {
	case api.Drop:
		delete(m, name)
		return "", api.OK
	case api.Search:
		return c.search(int(rest[0]), int(rest[1])*256+int(rest[2]), rest[3:])
	case api.Same:
		return c.same(rest)
	}
	id := int(rest[0])*256 + int(rest[1])
	vector, there := c.vectors[id]
	switch {
	case kind == api.Upsert:
		return "", c.upsert(id, rest[2:])
	case !there:
		return "", api.ErrNone
	case kind == api.Delete:
		delete(c.vectors, id)
		return "", api.OK
	}
	return vector, api.OK
}

func (m modelStore) list() string {
	out := ""
	for _, name := range slices.Sorted(maps.Keys(m)) {
		c := m[name]
		out += nameOf(name) + oneByte(c.dimension) + oneByte(c.measure) + oneByte(c.way) + oneByte(len(c.vectors))
	}
	return out
}

func (m modelStore) create(name string, dimension, measure, way int) api.Errno {
	switch {
	case !slices.Contains(measures, measure) || !slices.Contains(ways, way):
		return api.ErrKind
	case dimension == 0 || dimension > 8:
		return api.ErrDim
	case m[name] != nil:
		return api.ErrTaken
	case len(m) == 4:
		return api.ErrMany
	}
	m[name] = &modelCollection{dimension, measure, way, map[int]string{}}
	return api.OK
}

func (c *modelCollection) wrong(bytes string, noughtsToo bool) api.Errno {
	numbers := modelNumbers(bytes)
	if len(numbers) != c.dimension {
		return api.ErrDim
	}
	if slices.ContainsFunc(numbers, func(bits uint32) bool { return bits>>23&255 == 255 }) {
		return api.ErrNumber
	}
	if noughtsToo && c.measure == api.Angle && isNought(numbers) {
		return api.ErrZero
	}
	return api.OK
}

func (c *modelCollection) upsert(id int, bytes string) api.Errno {
	if e := c.wrong(bytes, true); e != api.OK {
		return e
	}
	if _, there := c.vectors[id]; !there && len(c.vectors) == 20 {
		return api.ErrFull
	}
	c.vectors[id] = bytes
	return api.OK
}

func (c *modelCollection) same(bytes string) (string, api.Errno) {
	if e := c.wrong(bytes, false); e != api.OK {
		return "", e
	}
	out := ""
	for _, id := range slices.Sorted(maps.Keys(c.vectors)) {
		if c.vectors[id] == bytes {
			out += twoBytes(id)
		}
	}
	return out, api.OK
}

func (c *modelCollection) search(count, budget int, bytes string) (string, api.Errno) {
	if e := c.wrong(bytes, true); e != api.OK {
		return "", e
	}
	if count == 0 {
		return "", api.ErrCount
	}
	if len(c.vectors) > budget {
		return "", api.ErrBudget
	}
	places := make([]string, len(c.vectors))
	for id, vector := range c.vectors {
		places[c.ahead(bytes, id)] = c.hit(bytes, id, vector)
	}
	return strings.Join(places[:min(count, len(places))], ""), api.OK
}

// ahead tells how many vectors go ahead of the one under an id.
func (c *modelCollection) ahead(bytes string, id int) int {
	q, v, n := modelNumbers(bytes), modelNumbers(c.vectors[id]), 0
	for other, vector := range c.vectors {
		order, _ := nearest.Compare(c.measure, q, modelNumbers(vector), v)
		if order < 0 || order == 0 && other < id {
			n++
		}
	}
	return n
}

func (c *modelCollection) hit(bytes string, id int, vector string) string {
	bits, overflows, _ := nearest.Score(c.measure, c.way, modelNumbers(bytes), modelNumbers(vector))
	if overflows {
		return overflowingHit(id)
	}
	return hit(id, bits)
}
