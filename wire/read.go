// Package wire: requests, and what answers are made of, as bytes.
package wire

import "nearest/api"

// Fault is what Read gives up with, by a panic, when bytes are no request.
type Fault struct{}

// Request is what a request's bytes say. What its kind does not have is empty or 0.
type Request struct {
	Kind      int
	Name      string
	ID        uint16
	Dimension int
	Measure   int
	Way       int
	Count     int
	Budget    int
	Numbers   []uint32
}

// Read tells what a request says; it panics with a Fault if the bytes are none. Whether there may be such a request (a name, a kind, a number), it does not ask. The name is a piece of the request.
func Read(request string) Request {
	r := reader{left: request}
	q := r.request()
	if r.left != "" {
		panic(Fault{})
	}
	return q
}

// reader takes one thing after the other off the bytes that are left.
type reader struct{ left string }

func (r *reader) request() Request {
	q := Request{Kind: r.oneByte()}
	switch q.Kind {
	case api.Create:
		q.Name, q.Dimension, q.Measure, q.Way = r.name(), r.oneByte(), r.oneByte(), r.oneByte()
	case api.Drop:
		q.Name = r.name()
	case api.Upsert:
		q.Name, q.ID, q.Numbers = r.name(), r.id(), r.numbers()
	case api.Delete, api.Get:
		q.Name, q.ID = r.name(), r.id()
	case api.Search:
		q.Name, q.Count, q.Budget, q.Numbers = r.name(), r.oneByte(), r.twoBytes(), r.numbers()
	case api.Same:
		q.Name, q.Numbers = r.name(), r.numbers()
	case api.List:
	default:
		panic(Fault{})
	}
	return q
}

func (r *reader) take(n int) string {
	if n > len(r.left) {
		panic(Fault{})
	}
	taken := r.left[:n]
	r.left = r.left[n:]
	return taken
}

func (r *reader) oneByte() int { return int(r.take(1)[0]) }

func (r *reader) twoBytes() int { return r.oneByte()<<8 | r.oneByte() }

func (r *reader) id() uint16 { return uint16(r.twoBytes()) }

func (r *reader) name() string {
	n := r.oneByte()
	if n < 1 || n > api.MaxName {
		panic(Fault{})
	}
	return r.take(n)
}

func (r *reader) numbers() []uint32 {
	var list []uint32
	for r.left != "" {
		list = append(list, uint32(r.twoBytes())<<16|uint32(r.twoBytes()))
	}
	return list
}
