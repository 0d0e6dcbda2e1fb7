package collection

import (
	"slices"
	"strings"

	"nearest/api"
	"nearest/check"
)

// Set is the collections of a store. It has none to begin with.
type Set struct {
	list []*Collection // by their names' bytes
}

// All tells the collections, by their names' bytes.
func (s *Set) All() []*Collection { return slices.Clone(s.list) }

// Find tells the collection of that name, nil if there is none.
func (s *Set) Find(name string) *Collection {
	if place, there := s.place(name); there {
		return s.list[place]
	}
	return nil
}

// place tells where the collection of that name stands, or would stand.
func (s *Set) place(name string) (int, bool) {
	return slices.BinarySearchFunc(s.list, name, func(c *Collection, name string) int {
		return strings.Compare(c.Name, name)
	})
}

// Create makes an empty collection. The name is copied, as it may be a piece of something greater.
func (s *Set) Create(name string, dimension int, measure int, way int) api.Errno {
	if !check.Measure(measure) || !check.Way(way) {
		return api.ErrKind
	}
	if !check.Dimension(dimension) {
		return api.ErrDim
	}
	place, there := s.place(name)
	if there {
		return api.ErrTaken
	}
	if len(s.list) >= api.MaxCollections {
		return api.ErrMany
	}
	made := &Collection{Name: strings.Clone(name), Dimension: dimension, Measure: measure, Way: way}
	s.list = slices.Insert(s.list, place, made)
	return api.OK
}

// Drop takes a collection away, with all its vectors.
func (s *Set) Drop(name string) api.Errno {
	place, there := s.place(name)
	if !there {
		return api.ErrName
	}
	s.list = slices.Delete(s.list, place, place+1)
	return api.OK
}
