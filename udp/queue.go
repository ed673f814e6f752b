package udp

import "adit/api"

// queue has the things that wait at a port: by pointers, as a channel's own things have less than 65536 bytes, and T may be any type.
type queue[T any] chan *T

// offer lets things in as long as there is room: how many.
func (q queue[T]) offer(items []T) int {
	for i, item := range items {
		select {
		case q <- &item:
		default:
			return i
		}
	}
	return len(items)
}

// take lets out the one that waits longest.
func (q queue[T]) take() (T, api.Errno) {
	select {
	case item := <-q:
		return *item, api.OK
	default:
		var none T
		return none, api.ErrAgain
	}
}

// at is the queue of a port that is open.
func (p *Ports[T]) at(port int) (queue[T], api.Errno) {
	if p == nil {
		return nil, api.ErrArg
	}
	q, open := p.queues[port]
	if !open {
		return nil, api.ErrPort
	}
	return q, api.OK
}

// free is the least port of those that are given out that is not open: there is one, as fewer are open than are given out.
func (p *Ports[T]) free() int {
	port := api.FirstPort
	for p.queues[port] != nil {
		port++
	}
	return port
}

// begin opens a port at which nothing waits.
func (p *Ports[T]) begin(port, depth int) {
	if p.queues == nil {
		p.queues = map[int]queue[T]{}
	}
	p.queues[port] = make(queue[T], depth)
}
