package session

import (
	"math"

	"adit/aead"
	"adit/api"
	"adit/replay"
)

const (
	nowhere = -1 // no slot
	never   = -1 // no time
)

// slot has a keypair, or none.
type slot struct {
	pair   api.Pair
	epoch  int // from 1 on; 0 of an empty slot
	first  bool
	born   int
	sent   uint64
	window *replay.Window[uint64]
}

func newSlot(p api.Pair, epoch, born int, first bool) slot {
	return slot{pair: p, epoch: epoch, born: born, first: first, window: replay.New[uint64](api.WindowBits)}
}

func (k slot) empty() bool { return k.epoch == 0 }

// due is when a slot is old: never, too, if no number is so great.
func (k slot) due() int {
	if k.empty() || k.born > math.MaxInt-api.RejectAfter {
		return never
	}
	return k.born + api.RejectAfter
}

func (k slot) told(which int) api.Slot {
	return api.Slot{
		Which: which,
		Epoch: k.epoch,
		Local: k.pair.Local,
		Far:   k.pair.Far,
		First: k.first,
		Born:  k.born,
		Sent:  k.sent,
		Top:   k.window.Top(),
	}
}

// open tells the text of a box; only behind a box that opens its counter came, so that no stranger can use counters up.
func (k slot) open(counter uint64, box string) (string, api.Errno) {
	if counter >= api.LastCounter || !k.window.Fresh(counter) {
		return "", api.ErrReplay
	}
	text, errno := aead.Open(k.pair.Recv, aead.Nonce(counter), box, "")
	if errno == api.OK {
		k.window.Take(counter)
	}
	return text, errno
}

// tell tells the session the time, which never goes back.
func (s *Session) tell(now int) { s.time = max(s.time, now) }

func (s *Session) age(k slot) int { return s.time - k.born }

func (s *Session) old(k slot) bool { return s.age(k) >= api.RejectAfter }

// find is which slot has an index for its own.
func (s *Session) find(local uint32) int {
	for which := range len(s.slots) {
		if k := s.slots[which]; !k.empty() && k.pair.Local == local {
			return which
		}
	}
	return nowhere
}

// place puts a new keypair where it belongs: the end that began the handshake knows that the other one has it, and seals by it at once.
func (s *Session) place(k slot) {
	if !k.first {
		s.slots[api.Next] = k
		return
	}
	// If there is a next one, the other end seals by that: so it is kept rather than what is current.
	s.keep(api.Current)
	s.keep(api.Next)
	s.slots[api.Current], s.slots[api.Next] = k, slot{}
}

// keep makes a keypair, if there is one, the previous one.
func (s *Session) keep(which int) {
	if k := s.slots[which]; !k.empty() {
		s.slots[api.Previous] = k
	}
}

// opened does what follows from a box that was opened by a slot.
func (s *Session) opened(which int) {
	if which == api.Next {
		s.keep(api.Current)
		s.slots[api.Current], s.slots[api.Next] = s.slots[api.Next], slot{}
		which = api.Current
	}
	if which == api.Current && s.slots[which].window.Top() >= api.Retire {
		s.slots[api.Previous] = slot{}
	}
}

// drop empties the slots that go: their own indices.
func (s *Session) drop(goes func(slot) bool) []uint32 {
	var locals []uint32
	for which := range len(s.slots) {
		if k := s.slots[which]; !k.empty() && goes(k) {
			locals = append(locals, k.pair.Local)
			s.slots[which] = slot{}
		}
	}
	return locals
}
