// Package record: requests as a journal holds them, each with its sum.
package record

import "strings"

// lengthBytes is how many bytes stand ahead of the request, to tell how many it has.
const lengthBytes = 2

// Of makes the record of a request, which has at most 65535 bytes.
func Of(request string) string {
	n := len(request)
	summed := string([]byte{byte(n >> 8), byte(n)}) + request
	s := sum(summed)
	return summed + string([]byte{byte(s), byte(s >> 8), byte(s >> 16), byte(s >> 24)})
}

// First tells the request of the record with which a journal begins, and whether there is one that is whole and has its sum. The request is a piece of the journal.
func First(journal string) (string, bool) {
	if len(journal) < lengthBytes {
		return "", false
	}
	end := lengthBytes + (int(journal[0])<<8 | int(journal[1]))
	if len(journal) < end {
		return "", false
	}
	request := journal[lengthBytes:end]
	if !strings.HasPrefix(journal, Of(request)) {
		return "", false
	}
	return request, true
}
