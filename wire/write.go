package wire

import "nearest/api"

// Create makes the request that creates such a collection.
func Create(name string, dimension int, measure int, way int) string {
	request := AppendName([]byte{api.Create}, name)
	return string(append(request, byte(dimension), byte(measure), byte(way)))
}

// Upsert makes the request that lays a vector down under an id.
func Upsert(name string, id uint16, numbers []uint32) string {
	request := AppendName([]byte{api.Upsert}, name)
	return string(AppendNumbers(AppendID(request, id), numbers...))
}
