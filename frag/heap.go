package frag

import (
	"cmp"
	"maps"
	"slices"
	"strings"

	"adit/api"
)

const (
	never    = -1      // no time
	mostTime = 1 << 62 // a later one counts as this, so that there is a time at which a heap is late
)

// family is what pieces that belong together have in common.
type family struct {
	tag       api.Tag
	src, dst  api.Addr
	proto, id int
}

func familyOf(tag api.Tag, p api.Packet) family {
	return family{tag: tag, src: p.Src, dst: p.Dst, proto: p.Proto, id: p.ID}
}

// piece is what is kept of each one.
type piece struct {
	offset  int
	more    bool
	payload string
}

func pieceOf(p api.Packet) piece { return piece{p.Offset, p.More, p.Payload} }

// reach is where a piece ends.
func (p piece) reach() int { return p.offset + len(p.payload) }

// meets tells whether two pieces have a place in common.
func (p piece) meets(other piece) bool {
	return p.offset < other.reach() && other.offset < p.reach()
}

func isWhole(p api.Packet) bool { return p.Offset == 0 && !p.More }

// mayLie tells whether a piece is not dropped whatever heap there is.
func mayLie(p api.Packet) bool {
	wholeEights := len(p.Payload)%eight == 0
	return p.Payload != "" && (!p.More || wholeEights) && pieceOf(p).reach() <= api.MaxPacket
}

// heap has pieces that belong together, at least one: in order, none of them over another, and none behind one without More.
type heap struct {
	born   int
	number int        // of those that began
	head   api.Packet // of the piece at 0, once it came
	pieces []piece
}

func (h *heap) due() int { return h.born + api.BoxTime }

func (h *heap) held() int {
	held := 0
	for _, p := range h.pieces {
		held += len(p.payload)
	}
	return held
}

// refuses tells whether a piece can't be of one packet with those that are there, or is one too many.
func (h *heap) refuses(p piece) bool {
	last := h.pieces[len(h.pieces)-1]
	beyond := !last.more && (!p.more || p.reach() > last.reach())
	short := !p.more && p.reach() < last.reach()
	return beyond || short || len(h.pieces) >= api.MaxPieces || slices.ContainsFunc(h.pieces, p.meets)
}

func (h *heap) add(p api.Packet) {
	if p.Offset == 0 {
		h.head = uncut(p)
	}
	h.pieces = append(h.pieces, pieceOf(p))
	slices.SortFunc(h.pieces, func(one, other piece) int { return cmp.Compare(one.offset, other.offset) })
}

// full tells whether the pieces reach from 0 up to the end without a gap.
func (h *heap) full() bool {
	at := 0
	for _, p := range h.pieces {
		if p.offset != at {
			return false
		}
		at = p.reach()
	}
	return !h.pieces[len(h.pieces)-1].more
}

// packet is the whole one of a heap that is full.
func (h *heap) packet() api.Packet {
	var payload strings.Builder
	for _, p := range h.pieces {
		payload.WriteString(p.payload)
	}
	p := h.head
	p.Payload = payload.String()
	return p
}

// tell tells the box the time, which never goes back.
func (b *Box) tell(now int) { b.time = max(b.time, min(now, mostTime)) }

// dropLate lets late heaps go: how many.
func (b *Box) dropLate() int {
	before := len(b.heaps)
	maps.DeleteFunc(b.heaps, func(_ family, h *heap) bool { return h.due() <= b.time })
	return before - len(b.heaps)
}

// first is whose heap began first, of those that there are.
func (b *Box) first() family {
	var first family
	number := b.begun
	for of, h := range b.heaps {
		if h.number < number {
			first, number = of, h.number
		}
	}
	return first
}

// lay lays a piece on its heap, and tells the packet if that was the last one that was missing.
func (b *Box) lay(of family, p api.Packet) (api.Packet, bool) {
	h, ok := b.heaps[of]
	if !ok {
		h = b.begin(of)
	} else if slices.Contains(h.pieces, pieceOf(p)) {
		return api.Packet{}, false
	} else if h.refuses(pieceOf(p)) {
		delete(b.heaps, of)
		return api.Packet{}, false
	}
	h.add(p)
	if !h.full() {
		return api.Packet{}, false
	}
	delete(b.heaps, of)
	return told(h.packet())
}

// begin makes an empty heap, in the place of the first one if there is no room.
func (b *Box) begin(of family) *heap {
	if b.heaps == nil {
		b.heaps = map[family]*heap{}
	}
	if len(b.heaps) >= api.MaxBoxes {
		delete(b.heaps, b.first())
	}
	h := &heap{born: b.time, number: b.begun}
	b.heaps[of] = h
	b.begun++
	return h
}

// told is a packet that was put together, unless it is one that can't be built.
func told(p api.Packet) (api.Packet, bool) {
	if !fits(p) {
		return api.Packet{}, false
	}
	return p, true
}
