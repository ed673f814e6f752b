package frag

import (
	"fmt"
	"math/rand/v2"
	"strings"
	"testing"

	"adit/api"
	"adit/ip"
	"adit/wire"
)

func TestExamples(t *testing.T) {
	p := small(100)
	check(t, "mtu 68", shape(Split(p, 68, 0)), "0+48 more; 48+48 more; 96+4;")
	check(t, "with Still", shape(Split(with(p, still), 68, 0)), "error 75")
	check(t, "mtu 67", shape(Split(p, 67, 0)), "error 1")
	check(t, "mtu 120", shape(Split(p, 120, 0)), "0+100;")

	l := split(t, p, 68, 0)
	b := New()
	checkNothing(t, "the last one", b, 0, one, l[2])
	checkNothing(t, "the second one", b, 0, one, l[1])
	checkTake(t, "the first one", b, 0, one, l[0], p)

	b = New()
	checkNothing(t, "the first one", b, 0, one, l[0])
	checkNothing(t, "the second one", b, 0, one, l[1])
	checkNothing(t, "the third one by another tag", b, 0, two, l[2])
	checkBox(t, "by two tags", b, 2, 100, 30000)

	b = New()
	checkNothing(t, "the first one", b, 0, one, l[0])
	checkNothing(t, "8 bytes at 40", b, 0, one, with(l[0], at(40), payload("12345678")))
	checkBox(t, "over one another", b, 0, 0, -1)
}

func check[V comparable](t *testing.T, what string, got, want V) {
	t.Helper()
	if got != want {
		t.Errorf("%s: %v, want %v", what, got, want)
	}
}

func checkBox(t *testing.T, what string, b *Box, waiting, held, next int) {
	t.Helper()
	check(t, what+": Waiting", b.Waiting(), waiting)
	check(t, what+": Held", b.Held(), held)
	check(t, what+": Next", b.Next(), next)
}

func checkTake(t *testing.T, what string, b *Box, now int, tag api.Tag, p, want api.Packet) {
	t.Helper()
	if got, ok := b.Take(now, tag, p); !ok || !equal(got, want) {
		t.Errorf("%s: Take of %s: %t %s, want %s", what, brief(p), ok, brief(got), brief(want))
	}
}

func checkNothing(t *testing.T, what string, b *Box, now int, tag api.Tag, p api.Packet) {
	t.Helper()
	if got, ok := b.Take(now, tag, p); ok || !equal(got, api.Packet{}) {
		t.Errorf("%s: Take of %s: %t %s, want nothing", what, brief(p), ok, brief(got))
	}
}

// brief is what is different from packet to packet, without the bytes.
func brief(p api.Packet) string {
	bytes := fmt.Sprint(len(p.Payload), " bytes")
	p.Payload = ""
	for i := range p.Exts {
		bytes += fmt.Sprint(", an Ext of ", len(p.Exts[i].Body))
	}
	p.Exts = nil
	return fmt.Sprintf("%s of %+v", bytes, p)
}

func shape(l []api.Packet, errno api.Errno) string {
	if errno != api.OK {
		return fmt.Sprint("error ", int(errno))
	}
	var all []string
	for _, p := range l {
		all = append(all, fmt.Sprintf("%d+%d%s;", p.Offset, len(p.Payload), strings.Repeat(" more", b2i(p.More))))
	}
	return strings.Join(all, " ")
}

func b2i(b bool) int {
	if b {
		return 1
	}
	return 0
}

var one, two = api.Tag{Peer: 1, Epoch: 1}, api.Tag{Peer: 1, Epoch: 2}

func zeros(n int) string { return string(make([]byte, n)) }

// text are so many bytes, of which no two eights near each other are the same.
func text(n int) string {
	b := make([]byte, n)
	for i := range b {
		b[i] = byte(i + i/8*7 + i/251)
	}
	return string(b)
}

func addr6(last byte) api.Addr { return api.Addr{V6: true, B: [16]byte{0: 0xfd, 15: last}} }

func small(n int) api.Packet {
	return api.Packet{Src: wire.V4(10, 0, 0, 1), Dst: wire.V4(10, 0, 0, 2), Proto: 17, Hop: 64, ID: 1, Payload: text(n)}
}

func small6(n int) api.Packet {
	return api.Packet{Src: addr6(1), Dst: addr6(2), Proto: 17, Hop: 64, Payload: text(n)}
}

// piece4 is a piece of version 4 with those bytes of text, piece6 one of version 6.
func piece4(offset, size int, changes ...func(p *api.Packet)) api.Packet {
	p := with(small(0), payload(text(offset + size)[offset:]), at(offset))
	return with(p, changes...)
}

func piece6(offset, size int, changes ...func(p *api.Packet)) api.Packet {
	p := with(small6(0), payload(text(offset + size)[offset:]), at(offset))
	p.Cut, p.ID = true, 7
	return with(p, changes...)
}

func with(p api.Packet, changes ...func(p *api.Packet)) api.Packet {
	for _, change := range changes {
		change(&p)
	}
	return p
}

func more(p *api.Packet)  { p.More = true }
func still(p *api.Packet) { p.Still = true }

func at(offset int) func(p *api.Packet)    { return func(p *api.Packet) { p.Offset = offset } }
func payload(s string) func(p *api.Packet) { return func(p *api.Packet) { p.Payload = s } }
func number(id int) func(p *api.Packet)    { return func(p *api.Packet) { p.ID = id } }
func options(size int) func(p *api.Packet) { return func(p *api.Packet) { p.Options = text(size) } }

// exts has extension headers of so many bytes each.
func exts(sizes ...int) func(p *api.Packet) {
	return func(p *api.Packet) {
		p.Exts = nil
		for _, size := range sizes {
			p.Exts = append(p.Exts, api.Ext{Kind: 60, Body: text(size - 2)})
		}
	}
}

// drawnPacket is one that may be, whole, of some length.
func drawnPacket(r *rand.Rand) api.Packet {
	p := small(r.IntN(900))
	if r.IntN(2) == 0 {
		p = small6(r.IntN(6000))
		p.Flow = r.IntN(1 << 20)
		for range r.IntN(5) {
			p.Exts = append(p.Exts, api.Ext{Kind: 43 + 17*r.IntN(2), Body: text(6 + 8*r.IntN(60))})
		}
	} else {
		p.ID = r.IntN(65536)
		p.Options = text(4 * r.IntN(11))
	}
	p.Proto, p.Hop, p.Class = []int{1, 6, 17, 58}[r.IntN(4)], r.IntN(256), r.IntN(256)
	if !ip.Right(p) {
		panic("a drawn packet may not be")
	}
	return p
}
