package udp

import (
	"fmt"
	"testing"

	"adit/api"
	"adit/wire"
)

func TestExamples(t *testing.T) {
	d, b := api.UDP{Src: 1, Dst: 2, Data: "hi"}, "\x00\x01\x00\x02\x00\x0a\x83\x6bhi"
	checkBuild(t, "hi", one, two, d, b, api.OK)
	checkParse(t, "hi", one, two, b, d, api.OK)
	for i := range b {
		turned := []byte(b)
		turned[i] ^= 1
		want := api.ErrCheck
		if i == 4 || i == 5 {
			want = api.ErrLength // of 266 bytes, of 11
		}
		checkParse(t, fmt.Sprint("byte ", i, " turned"), one, two, string(turned), api.UDP{}, want)
	}
	checkParse(t, "its first 7", one, two, b[:7], api.UDP{}, api.ErrShort)
	checkParse(t, "the number 9", one, two, withSize(b, 9), api.UDP{}, api.ErrCheck)

	p := NewPorts[string]()
	for _, c := range []struct {
		port, depth, want int
		errno             api.Errno
	}{{53, 2, 53, api.OK}, {53, 1, 0, api.ErrPort}, {0, 1, 49152, api.OK}, {0, 1, 49153, api.OK}, {1, 0, 0, api.ErrArg}} {
		port, errno := p.Open(c.port, c.depth)
		check(t, fmt.Sprintf("Open(%d, %d)", c.port, c.depth), fmt.Sprint(port, int(errno)), fmt.Sprint(c.want, int(c.errno)))
	}
	n, errno := p.Offer(53, "a", "b", "c")
	check(t, "Offer", fmt.Sprint(n, int(errno)), "2 0")
	for _, want := range []string{"a 0", "b 0", " 82"} {
		item, errno := p.Take(53)
		check(t, "Take(53)", fmt.Sprint(item, " ", int(errno)), want)
	}
	item, errno := p.Take(54)
	check(t, "Take(54)", fmt.Sprint(item, " ", int(errno)), " 80")
}

var (
	one, two   = wire.V4(10, 0, 0, 1), wire.V4(10, 0, 0, 2)
	one6, two6 = addr6(1), addr6(2)
)

func addr6(last byte) api.Addr { return api.Addr{V6: true, B: [16]byte{0: 0xfd, 7: 0xa5, 15: last}} }

// pairs are addresses between which there may be datagrams.
var pairs = [][2]api.Addr{{one, two}, {one6, two6}, {{}, {}}, {{}, wire.V4(255, 255, 255, 255)}, {{V6: true}, {V6: true}}}

// mayNotBe is an address of version 4 that has a byte at this place.
func mayNotBe(at int) api.Addr {
	a := one
	a.B[at] = 1
	return a
}
