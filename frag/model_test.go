package frag

import (
	"reflect"
	"slices"
	"strings"
	"testing"

	"adit/api"
	"adit/ip"
)

// The model goes by the chapter's words alone: lengths are found by trying, heaps lie in the order in which they began, and what pieces have in common is asked place by place.

func modelFits(p api.Packet) bool {
	_, errno := ip.Build(p)
	return errno == api.OK
}

func modelSplit(p api.Packet, mtu, id int) ([]api.Packet, api.Errno) {
	least := map[bool]int{false: 68, true: 1280}[p.Src.V6]
	switch {
	case !ip.Right(p), mtu < least, id < 0, id > 4294967295, p.Src.V6 && p.Cut:
		return nil, api.ErrArg
	case !modelFits(p):
		return nil, api.ErrBig
	case ip.Size(p) <= mtu:
		return []api.Packet{p}, api.OK
	case !p.Src.V6 && p.Still:
		return nil, api.ErrBig
	case p.Src.V6:
		p.Cut, p.ID = true, id
	}
	most := 0
	for ip.Size(with(p, payload(strings.Repeat("x", most+8)))) <= mtu {
		most += 8
	}
	if most == 0 {
		return nil, api.ErrBig
	}
	var pieces []api.Packet
	for left, at := p.Payload, p.Offset; left != ""; at += most {
		if at > 65528 {
			return nil, api.ErrBig
		}
		now := left[:min(most, len(left))]
		left = left[len(now):]
		pieces = append(pieces, with(p, payload(now), func(q *api.Packet) {
			q.Offset, q.More = at, left != "" || p.More
		}))
	}
	return pieces, api.OK
}

type modelHeap struct {
	tag    api.Tag
	began  int
	pieces []api.Packet
}

// places are all places of the pieces, and their bytes.
func (h modelHeap) places() map[int]byte {
	all := map[int]byte{}
	for _, p := range h.pieces {
		for i := range len(p.Payload) {
			all[p.Offset+i] = p.Payload[i]
		}
	}
	return all
}

// end is that of a piece without More, -1 without such a one.
func (h modelHeap) end() int {
	for _, p := range h.pieces {
		if !p.More {
			return p.Offset + len(p.Payload)
		}
	}
	return -1
}

func (h modelHeap) has(tag api.Tag, p api.Packet) bool {
	q := h.pieces[0]
	return h.tag == tag && q.Src == p.Src && q.Dst == p.Dst && q.Proto == p.Proto && q.ID == p.ID
}

func (h modelHeap) hasSame(p api.Packet) bool {
	return slices.ContainsFunc(h.pieces, func(q api.Packet) bool {
		return q.Offset == p.Offset && q.More == p.More && q.Payload == p.Payload
	})
}

// goes tells whether the heap goes by a piece that comes.
func (h modelHeap) goes(p api.Packet) bool {
	there, came := h.places(), modelHeap{pieces: []api.Packet{p}}
	for at := range came.places() {
		if _, both := there[at]; both {
			return true
		}
		if h.end() != -1 && at >= h.end() {
			return true
		}
	}
	if !p.More {
		for at := range there {
			if at >= came.end() {
				return true
			}
		}
		if h.end() != -1 {
			return true
		}
	}
	return len(h.pieces) == 64
}

// joined are the bytes from 0 up to the end, if there is no gap.
func (h modelHeap) joined() (string, bool) {
	there := h.places()
	var bytes []byte
	for at := range h.end() {
		b, ok := there[at]
		if !ok {
			return "", false
		}
		bytes = append(bytes, b)
	}
	return string(bytes), h.end() != -1
}

func (h modelHeap) packet(payload string) api.Packet {
	i := slices.IndexFunc(h.pieces, func(q api.Packet) bool { return q.Offset == 0 })
	p := h.pieces[i]
	p.More, p.Payload = false, payload
	if p.Src.V6 {
		p.Cut, p.ID = false, 0
	}
	return p
}

type modelBox struct {
	heaps []modelHeap // the one that began first is first
	time  int
}

func (m *modelBox) tick(now int) int {
	if now > 1<<62 {
		now = 1 << 62
	}
	if now > m.time {
		m.time = now
	}
	before := len(m.heaps)
	m.heaps = slices.DeleteFunc(m.heaps, func(h modelHeap) bool { return m.time-h.began >= 30000 })
	return before - len(m.heaps)
}

func (m *modelBox) take(now int, tag api.Tag, p api.Packet) (api.Packet, bool) {
	m.tick(now)
	size := len(p.Payload)
	switch {
	case !ip.Right(p):
		return api.Packet{}, false
	case !p.More && p.Offset == 0:
		if p.Src.V6 {
			p.Cut, p.ID = false, 0
		}
		return p, true
	case size == 0, p.More && size%8 != 0, p.Offset+size > 65535:
		return api.Packet{}, false
	}
	i := slices.IndexFunc(m.heaps, func(h modelHeap) bool { return h.has(tag, p) })
	switch {
	case i == -1:
		if len(m.heaps) == 8 {
			m.heaps = m.heaps[1:]
		}
		i = len(m.heaps)
		m.heaps = append(m.heaps, modelHeap{tag: tag, began: m.time})
	case m.heaps[i].hasSame(p):
		return api.Packet{}, false
	case m.heaps[i].goes(p):
		m.heaps = slices.Delete(m.heaps, i, i+1)
		return api.Packet{}, false
	}
	h := &m.heaps[i]
	h.pieces = append(h.pieces, p)
	all, ok := h.joined()
	if !ok {
		return api.Packet{}, false
	}
	q := h.packet(all)
	m.heaps = slices.Delete(m.heaps, i, i+1)
	if !modelFits(q) {
		return api.Packet{}, false
	}
	return q, true
}

func (m *modelBox) held() (n int) {
	for _, h := range m.heaps {
		n += len(h.places())
	}
	return n
}

func (m *modelBox) next() int {
	next := -1
	for _, h := range m.heaps {
		if next == -1 || h.began+30000 < next {
			next = h.began + 30000
		}
	}
	return next
}

// both are a box and its model, which are told the same.
type both struct {
	t *testing.T
	b *Box
	m modelBox
}

func newBoth(t *testing.T) *both { return &both{t: t, b: New()} }

func (e *both) asked() {
	e.t.Helper()
	check(e.t, "Waiting", e.b.Waiting(), len(e.m.heaps))
	check(e.t, "Held", e.b.Held(), e.m.held())
	check(e.t, "Next", e.b.Next(), e.m.next())
	if e.b.Waiting() > 8 || e.b.Held() > 8*65535 {
		e.t.Fatalf("%d heaps with %d bytes", e.b.Waiting(), e.b.Held())
	}
}

func (e *both) take(now int, tag api.Tag, p api.Packet) (api.Packet, bool) {
	e.t.Helper()
	got, ok := e.b.Take(now, tag, p)
	want, wantOK := e.m.take(now, tag, p)
	if ok != wantOK || !equal(got, want) {
		e.t.Fatalf("at %d, Take of %v %s: %t %s, want %t %s", now, tag, brief(p), ok, brief(got), wantOK, brief(want))
	}
	e.asked()
	return got, ok
}

func (e *both) tick(now int) int {
	e.t.Helper()
	n := e.b.Tick(now)
	check(e.t, "Tick", n, e.m.tick(now))
	e.asked()
	return n
}

// equal holds packets against each other field by field, whatever fields there are; no Exts are no Exts.
func equal(a, b api.Packet) bool {
	if len(a.Exts) == 0 && len(b.Exts) == 0 {
		a.Exts, b.Exts = nil, nil
	}
	return reflect.DeepEqual(a, b)
}
