package icmp

import (
	"fmt"
	"testing"

	"adit/api"
	"adit/ip"
	"adit/wire"
)

func TestExamples(t *testing.T) {
	m := api.Message{Type: 8, Rest: 1, Body: "ab"}
	b := "\x08\x00\x96\x9c\x00\x00\x00\x01ab"
	checkBuild(t, "an echo request", one, two, m, b, api.OK)
	checkParse(t, "an echo request", one, two, b, m, api.OK)
	for i := range b {
		turned := []byte(b)
		turned[i] ^= 1 << (i % 8)
		checkParse(t, fmt.Sprint("byte ", i, " turned"), one, two, string(turned), api.Message{}, api.ErrCheck)
	}

	p := api.Packet{Src: one, Dst: two, Proto: 1, Hop: 9, Payload: b}
	reply, ok := Echo(p)
	said, errno := Parse(reply.Src, reply.Dst, reply.Payload)
	check(t, "Echo", fmt.Sprint(ok, reply.Src == two, reply.Dst == one, said, int(errno)), "true true true {0 0 1 ab} 0")

	q, ok := Problem(NoPort, two, whole(100), 0)
	check(t, "Problem(NoPort)", fmt.Sprint(ok, len(q.Payload), ip.Right(q)), "true 36 true")
	for kind := NoPort; kind <= NoProto; kind++ {
		checkProblem(t, "of that answer", kind, one, q, 0, api.Packet{}, false)
	}

	bucket := NewBucket()
	for range 10 {
		check(t, "Allow(0)", bucket.Allow(0), true)
	}
	for i, now := range []int{0, 99, 100, 100} {
		check(t, fmt.Sprint("Allow ", i), bucket.Allow(now), i == 2)
	}

	x := wire.V4(192, 0, 2, 9)
	paths := NewPaths()
	check(t, "Learn(0, x, 1000)", paths.Learn(0, x, 1000), true)
	check(t, "MTU(0, x, 1500)", paths.MTU(0, x, 1500), 1000)
	check(t, "Learn(1, x, 1400)", paths.Learn(1, x, 1400), false)
	check(t, "Learn(1, x, 100)", paths.Learn(1, x, 100), true)
	check(t, "MTU(1, x, 1500)", paths.MTU(1, x, 1500), 576)
	check(t, "MTU(600001, x, 1500)", paths.MTU(600001, x, 1500), 1500)
}

var (
	one, two   = wire.V4(10, 0, 0, 1), wire.V4(10, 0, 0, 2)
	one6, two6 = addr6(1), addr6(2)
)

func addr6(last byte) api.Addr { return api.Addr{V6: true, B: [16]byte{0: 0xfd, 7: 0xa5, 15: last}} }

// mayNotBe is an address of version 4 that has a byte at this place.
func mayNotBe(at int) api.Addr {
	a := one
	a.B[at] = 1
	return a
}

// whole is a packet of UDP of version 4, whole6 one of version 6.
func whole(n int) api.Packet {
	return api.Packet{Src: one, Dst: two, Proto: 17, Hop: 64, ID: 7, Class: 3, Payload: text(n)}
}
func whole6(n int) api.Packet {
	return api.Packet{Src: one6, Dst: two6, Proto: 17, Hop: 64, Flow: 9, Class: 3, Payload: text(n)}
}

// with4 is a packet of ICMP of version 4 with this message, with6 one of version 6: by the model, whatever the package does.
func with4(typ, code int, rest uint32, body string) api.Packet {
	p := modelPacket(one, two, api.Message{Type: typ, Code: code, Rest: rest, Body: body})
	p.Hop, p.ID = 9, 5
	return p
}
func with6(typ, code int, rest uint32, body string) api.Packet {
	p := modelPacket(one6, two6, api.Message{Type: typ, Code: code, Rest: rest, Body: body})
	p.Hop, p.Flow = 9, 5
	return p
}

func but(p api.Packet, changes ...func(p *api.Packet)) api.Packet {
	for _, change := range changes {
		change(&p)
	}
	return p
}

func src(a api.Addr) func(p *api.Packet) { return func(p *api.Packet) { p.Src = a } }
func dst(a api.Addr) func(p *api.Packet) { return func(p *api.Packet) { p.Dst = a } }
func proto(n int) func(p *api.Packet)    { return func(p *api.Packet) { p.Proto = n } }
func hop(n int) func(p *api.Packet)      { return func(p *api.Packet) { p.Hop = n } }
func at(offset int) func(p *api.Packet)  { return func(p *api.Packet) { p.Offset = offset } }
func more(p *api.Packet)                 { p.More = true }
func cut(p *api.Packet)                  { p.Cut, p.ID = true, 77 }
func options(size int) func(p *api.Packet) {
	return func(p *api.Packet) { p.Options = text(size) }
}
func exts(sizes ...int) func(p *api.Packet) {
	return func(p *api.Packet) {
		for _, size := range sizes {
			p.Exts = append(p.Exts, api.Ext{Kind: 60, Body: text(size - 2)})
		}
	}
}
func payload(s string) func(p *api.Packet) { return func(p *api.Packet) { p.Payload = s } }

// sealed lays the payload's checksum anew, for the packet's addresses.
func sealed(p *api.Packet) {
	b := []byte(p.Payload)
	b[2], b[3] = 0, 0
	sum := modelSum(p.Src, p.Dst, string(b))
	b[2], b[3] = byte(sum/256), byte(sum%256)
	p.Payload = string(b)
}
