package icmp

import (
	"maps"

	"adit/api"
)

// tell tells the bucket the time, by which tokens come.
func (b *Bucket) tell(now int) {
	if now <= b.time {
		return
	}
	come := now/api.Refill - b.time/api.Refill
	b.spent = max(b.spent-come, 0)
	b.time = now
}

// path is what is known of one.
type path struct {
	mtu    int
	born   int
	number int // of what was learned: several may have one time
}

// tell tells the paths the time, by which they run out.
func (t *Paths) tell(now int) {
	t.time = max(t.time, now)
	// born + PathTime might be no int
	maps.DeleteFunc(t.known, func(_ api.Addr, p path) bool { return t.time-p.born >= api.PathTime })
}

// keep lays down what was learned, in the place of the first one if there is no room.
func (t *Paths) keep(dst api.Addr, mtu int) {
	if t.known == nil {
		t.known = map[api.Addr]path{}
	}
	delete(t.known, dst)
	if len(t.known) == api.MaxPaths {
		delete(t.known, t.first())
	}
	t.known[dst] = path{mtu: mtu, born: t.time, number: t.count}
	t.count++
}

// first is the address whose path was learned first.
func (t *Paths) first() api.Addr {
	var first api.Addr
	number := t.count
	for dst, p := range t.known {
		if p.number < number {
			first, number = dst, p.number
		}
	}
	return first
}
