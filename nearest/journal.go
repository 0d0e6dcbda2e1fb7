package nearest

import (
	"strings"

	"nearest/api"
	"nearest/collection"
	"nearest/record"
	"nearest/wire"
)

// changes tells whether requests of that kind, answered OK, stand in the journal.
func changes(kind int) bool {
	switch kind {
	case api.Create, api.Drop, api.Upsert, api.Delete:
		return true
	}
	return false
}

// takeUp does the request of the record with which a journal begins. It tells whether it was written down: what a journal may hold is just what is written into one.
func (s *Store) takeUp(journal string) bool {
	request, whole := record.First(journal)
	if !whole {
		return false
	}
	before := len(s.journal)
	s.Do(request)
	return len(s.journal) > before
}

// writeAnew makes the shortest journal that leads to these collections.
func writeAnew(all []*collection.Collection) string {
	var journal strings.Builder
	for _, c := range all {
		journal.WriteString(record.Of(wire.Create(c.Name, c.Dimension, c.Measure, c.Way)))
		for id, numbers := range c.Vectors() {
			journal.WriteString(record.Of(wire.Upsert(c.Name, id, numbers)))
		}
	}
	return journal.String()
}
