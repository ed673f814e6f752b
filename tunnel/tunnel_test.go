package tunnel

import (
	"encoding/binary"
	"math"
	"strings"
	"testing"

	"adit/api"
	"adit/blake"
	"adit/curve"
	"adit/noise"
)

func TestExamples(t *testing.T) {
	a, b := ends(t)
	x, errno := a.send(0, packet4(1, 2, 0))
	check(t, "Send", errno, api.ErrKey)
	check(t, "Send", long(x), "148")
	up, y, errno := b.receive(0, place(1), x[0].Bytes)
	check(t, "initiation", errno, api.OK)
	check(t, "initiation", long(y), "92")
	check(t, "initiation: handed up", len(up), 0)
	up, z, errno := a.receive(0, place(2), y[0].Bytes)
	check(t, "response", errno, api.OK)
	check(t, "response", long(z), "64")
	check(t, "response: handed up", len(up), 0)
	up, out, errno := b.receive(0, place(1), z[0].Bytes)
	check(t, "transport", errno, api.OK)
	check(t, "transport", long(out), "")
	check(t, "transport: handed up", len(up), 1)
	check(t, "packet", up[0], api.Inner{Peer: 0, Epoch: 1, Counter: 0, Packet: packet4(1, 2, 0)})
	b.refuses("once more", 0, z[0].Bytes, api.ErrReplay)
	x, errno = a.send(0, packet4(1, 3, 0))
	check(t, "10.0.0.3", errno, api.ErrRoute)
	check(t, "10.0.0.3", long(x), "")
	b.refuses("zeros", 0, "\x01"+strings.Repeat("\x00", 147), api.ErrMac)
}

// P11.1

func checkNew(t *testing.T, what string, c api.TunnelConfig, want api.Errno) {
	t.Helper()
	x, errno := New(c)
	check(t, what, errno, want)
	check(t, what+": a tunnel", x != nil, want == api.OK)
}

func manyPeers(n int) (peers []api.PeerConfig) {
	for i := range n {
		peers = append(peers, api.PeerConfig{Public: [32]byte{1, byte(i)}})
	}
	return peers
}

func TestMadeWithinBounds(t *testing.T) {
	for mtu, want := range map[int]api.Errno{-1: api.ErrArg, 0: api.ErrArg, 1279: api.ErrArg, 1280: api.OK, 9000: api.OK, 9001: api.ErrArg, math.MaxInt: api.ErrArg} {
		checkNew(t, "MTU", api.TunnelConfig{Private: keyA, MTU: mtu}, want)
	}
	checkNew(t, "no peer", configOf(keyA), api.OK)
	checkNew(t, "16 peers", configOf(keyA, manyPeers(16)...), api.OK)
	checkNew(t, "17 peers", configOf(keyA, manyPeers(17)...), api.ErrArg)
}

func TestMadeWithEndpoints(t *testing.T) {
	odd := addr4(192, 0, 2, 1, 1)
	last := addr4(192, 0, 2, 1)
	last.B[15] = 1
	for _, c := range []struct {
		at   api.Endpoint
		want api.Errno
	}{
		{api.Endpoint{Addr: addr4(192, 0, 2, 1), Port: 0}, api.ErrArg},
		{api.Endpoint{Addr: addr4(192, 0, 2, 1), Port: -1}, api.ErrArg},
		{api.Endpoint{Addr: addr4(192, 0, 2, 1), Port: 1}, api.OK},
		{api.Endpoint{Addr: addr4(192, 0, 2, 1), Port: 65535}, api.OK},
		{api.Endpoint{Addr: addr4(192, 0, 2, 1), Port: 65536}, api.ErrArg},
		{api.Endpoint{Addr: odd, Port: 1}, api.ErrArg},
		{api.Endpoint{Addr: last, Port: 1}, api.ErrArg},
		{api.Endpoint{Addr: addr6(1), Port: 1}, api.OK},
		{api.Endpoint{Addr: api.Addr{}, Port: 1}, api.OK},
	} {
		peers := []api.PeerConfig{peerOf(3, true), peerOf(2, true)}
		peers[1].Endpoint = c.at
		checkNew(t, "known", configOf(keyA, peers...), c.want)
		peers[1].Known = false
		checkNew(t, "not known", configOf(keyA, peers...), api.OK)
	}
}

func TestNotKnownIsNowhere(t *testing.T) {
	p := peerOf(2, false)
	p.Endpoint = place(2)
	x, _ := New(configOf(keyA, p))
	s, errno := x.Peer(0)
	check(t, "Peer", errno, api.OK)
	check(t, "Known", s.Known, false)
	check(t, "Endpoint", s.Endpoint, api.Endpoint{})
	out, errno := x.Send(0, [32]byte{}, packet4(1, 2, 0))
	check(t, "Send", errno, api.ErrKey)
	check(t, "Send", long(out), "")
}

func TestMadeWithKeysOnce(t *testing.T) {
	checkNew(t, "the own key", configOf(keyA, peerOf(2, true), peerOf(1, true)), api.ErrTwice)
	same := peerOf(3, true)
	same.Public = peerOf(2, true).Public
	checkNew(t, "another peer's key", configOf(keyA, peerOf(2, true), same), api.ErrTwice)
	checkNew(t, "three keys", configOf(keyA, peerOf(2, true), peerOf(3, true)), api.OK)
	peers := manyPeers(16)
	peers[15].Public = peers[0].Public
	checkNew(t, "the first and the last", configOf(keyA, peers...), api.ErrTwice)
	own := api.PeerConfig{Public: keyA}
	checkNew(t, "the private key's bytes", configOf(keyA, own), api.OK)
}

// with are peers that have these prefixes.
func with(lists ...[]api.Prefix) api.TunnelConfig {
	peers := manyPeers(len(lists))
	for n := range peers {
		peers[n].Allowed = lists[n]
	}
	return configOf(keyA, peers...)
}

func list(p ...api.Prefix) []api.Prefix { return p }

// some are prefixes that differ from one another, and from those of other bits.
func some(from, n int) (l []api.Prefix) {
	for i := range n {
		l = append(l, prefix4(31, 172, 16, byte(from+i), 0))
	}
	return l
}

func TestMadeWithPrefixes(t *testing.T) {
	ten, sixteen, wrong := prefix4(8, 10), prefix4(16, 10), prefix4(33, 10)
	six := api.Prefix{Addr: api.Addr{V6: true, B: [16]byte{10}}, Bits: 8}
	for _, c := range []struct {
		what string
		c    api.TunnelConfig
		want api.Errno
	}{
		{"33 bits", with(list(wrong)), api.ErrPrefix},
		{"-1 bits", with(nil, list(ten, prefix4(-1, 10))), api.ErrPrefix},
		{"an address that may not be", with(list(prefix4(8, 10, 0, 0, 0, 1))), api.ErrPrefix},
		{"129 bits", with(list(api.Prefix{Addr: addr6(1), Bits: 129})), api.ErrPrefix},
		{"another peer's", with(list(ten), list(ten)), api.ErrTwice},
		{"another peer's by other bits behind", with(list(prefix4(8, 10, 1)), list(prefix4(8, 10, 2))), api.ErrTwice},
		{"another peer's that has a longer one in it", with(list(ten), list(sixteen), list(ten)), api.ErrTwice},
		{"another peer's that is in a shorter one", with(list(ten), list(sixteen), list(sixteen)), api.ErrTwice},
		{"its own twice", with(list(ten, ten, prefix4(8, 10, 1)), list(sixteen)), api.OK},
		{"its own, behind another peer's longer one", with(list(ten), list(sixteen), list(prefix4(24, 10))), api.OK},
		{"the same bytes of version 6", with(list(ten), list(six)), api.OK},
		{"64", with(some(0, 64)), api.OK},
		{"64 of two", with(some(0, 32), some(32, 32)), api.OK},
		{"65", with(some(0, 65)), api.ErrFull},
		{"65 of three", with(some(0, 32), some(32, 32), some(64, 1)), api.ErrFull},
		{"64 and one of them once more", with(append(some(0, 64), some(0, 1)...)), api.OK},
		{"64 and another peer's", with(some(0, 64), some(3, 1)), api.ErrTwice},
		{"64 and one that may not be", with(some(0, 64), list(wrong)), api.ErrPrefix},
		{"65, then one that may not be", with(some(0, 65), list(wrong)), api.ErrFull},
		{"one that may not be, beside another peer's whole version", with(list(prefix4(0)), list(wrong)), api.ErrPrefix},
		{"one twice, then one that may not be", with(list(ten), list(ten, wrong)), api.ErrTwice},
		{"one that may not be, then one twice", with(list(ten), list(wrong, ten)), api.ErrPrefix},
		{"a peer's wrong one ahead of the next one's", with(list(ten, wrong), list(ten)), api.ErrPrefix},
	} {
		checkNew(t, c.what, c.c, c.want)
	}
}

func TestMadeErrorsInOrder(t *testing.T) {
	c := configOf(keyA, peerOf(1, true), peerOf(1, true))
	c.Peers[0].Allowed = list(prefix4(33, 10))
	c.MTU = 1
	checkNew(t, "all wrong", c, api.ErrArg)
	c.MTU = 1400
	checkNew(t, "keys and prefixes", c, api.ErrTwice)
	c.Peers[1].Endpoint.Port = 0
	checkNew(t, "an endpoint too", c, api.ErrArg)
	c = configOf(keyA, manyPeers(17)...)
	c.Peers[3].Public = c.Peers[2].Public
	checkNew(t, "too many peers, a key twice", c, api.ErrArg)
}

func TestConfigurationStaysItsOwners(t *testing.T) {
	c := configOf(keyA, peerOf(2, true))
	want := configOf(keyA, peerOf(2, true))
	e := newEnd(t, c)
	e.m = newModel(want)
	c.Peers[0].Allowed[0], c.Peers[0].Endpoint, c.Peers[0].Public = prefix4(8, 99), place(9), [32]byte{}
	out, errno := e.send(0, packet4(1, 2, 0))
	check(t, "Send", errno, api.ErrKey)
	check(t, "to", out[0].To, place(2))
}

// P11.2

func TestSendSizes(t *testing.T) {
	four, six := packet4(1, 2, 0), packet6(1, 2, 0)
	for _, c := range []struct {
		what, packet string
		want         api.Errno
	}{
		{"nothing", "", api.ErrSize},
		{"19 bytes of version 4", "\x45\x00\x00\x13" + four[4:19], api.ErrSize},
		{"20", four, api.ErrKey},
		{"any low half of the first byte", "\x4f" + four[1:], api.ErrKey},
		{"version 5", "\x55" + four[1:], api.ErrSize},
		{"version 0", "\x05" + four[1:], api.ErrSize},
		{"one byte more", four + "x", api.ErrSize},
		{"one byte less", packet4(1, 2, 1)[:20], api.ErrSize},
		{"39 bytes of version 6", six[:39], api.ErrSize},
		{"40", six, api.ErrKey},
		{"any low half of it", "\x6f" + six[1:], api.ErrKey},
		{"one more of version 6", six + "x", api.ErrSize},
		{"one less of version 6", packet6(1, 2, 1)[:40], api.ErrSize},
		{"MTU", packet4(1, 2, 1380), api.ErrKey},
		{"MTU and 1", packet4(1, 2, 1381), api.ErrSize},
		{"MTU of version 6", packet6(1, 2, 1360), api.ErrKey},
		{"MTU of version 6 and 1", packet6(1, 2, 1361), api.ErrSize},
		{"the greatest", packet4(1, 2, 65515), api.ErrSize},
		{"wrong size and nobody's", packet4(1, 9, 0) + "x", api.ErrSize},
	} {
		a, _ := ends(t)
		out, errno := a.send(7, c.packet)
		check(t, c.what, errno, c.want)
		check(t, c.what+": datagrams", len(out), map[api.Errno]int{api.ErrKey: 1}[c.want])
		check(t, c.what+": staged", a.state(0).Staged, len(out))
	}
}

// Of the first half byte of a packet only 4 and 6 are versions: each is no packet of any other one.
func TestVersions(t *testing.T) {
	f, a := forged(t, 0)
	a.receive(0, f.at, f.sealed(""))
	for version := range byte(16) {
		for own, packet := range map[byte]string{4: packet4(2, 2, 0), 6: packet6(2, 2, 0)} {
			want := api.ErrSize
			if version == own {
				want = api.OK
			}
			packet = string([]byte{version<<4 | 5}) + packet[1:]
			_, errno := a.send(0, packet)
			check(t, "Send", errno, want)
			_, _, errno = a.receive(0, f.at, f.sealed(packet))
			check(t, "Receive", errno, want)
		}
	}
}

func TestSendRoutes(t *testing.T) {
	one, two := peerOf(2, true), peerOf(3, true)
	one.Allowed = list(prefix4(8, 10), prefix4(24, 10, 1, 1))
	two.Allowed = list(prefix4(16, 10, 1), api.Prefix{Addr: api.Addr{V6: true}})
	for _, c := range []struct {
		dst  [4]byte
		want int
	}{
		{[4]byte{10, 0, 0, 1}, 0}, {[4]byte{10, 1, 0, 1}, 1}, {[4]byte{10, 1, 1, 1}, 0}, {[4]byte{10, 255, 255, 255}, 0}, {[4]byte{11, 0, 0, 0}, -1}, {[4]byte{}, -1},
	} {
		e := newEnd(t, configOf(keyA, one, two))
		packet := packet4(1, 2, 0)[:16] + string(c.dst[:])
		out, errno := e.send(0, packet)
		if c.want < 0 {
			check(t, "nobody's", errno, api.ErrRoute)
			check(t, "nobody's", len(out), 0)
			check(t, "nobody's: staged", e.state(0).Staged+e.state(1).Staged, 0)
			check(t, "nobody's: Next", e.x.Next(), -1)
			continue
		}
		check(t, "Send", errno, api.ErrKey)
		check(t, "to", out[0].To, place(byte(c.want+2)))
		check(t, "staged", e.state(c.want).Staged, 1)
		check(t, "staged at the other one", e.state(1-c.want).Staged, 0)
	}
	e := newEnd(t, configOf(keyA, one, two))
	out, _ := e.send(0, packet6(1, 2, 0))
	check(t, "version 6 to", out[0].To, place(3))
}

func TestSendStagesEight(t *testing.T) {
	a, b := ends(t)
	var first string
	for i := range 11 {
		out, errno := a.send(i, packet4(1, 2, i))
		check(t, "Send", errno, api.ErrKey)
		check(t, "staged", a.state(0).Staged, min(i+1, 8))
		if i == 0 {
			first = one(t, out)
		} else {
			check(t, "while a hand is under way", long(out), "")
		}
	}
	check(t, "Tries", a.state(0).Tries, 1)
	_, out, _ := b.receive(11, place(1), first)
	_, out, errno := a.receive(11, place(2), one(t, out))
	check(t, "response", errno, api.OK)
	check(t, "the staged", len(out), 8)
	check(t, "staged", a.state(0).Staged, 0)
	for i, d := range out {
		up, _, errno := b.receive(11, place(1), d.Bytes)
		check(t, "transport", errno, api.OK)
		check(t, "the last eight in order", up[0], api.Inner{Epoch: 1, Counter: uint64(i), Packet: packet4(1, 2, i+3)})
	}
}

func TestSendPads(t *testing.T) {
	a, b := ends(t)
	shaken(t, a, b, 0)
	for n := range 40 {
		packet := packet4(1, 2, n)
		out, errno := a.send(1, packet)
		check(t, "Send", errno, api.OK)
		check(t, "size", len(one(t, out)), 16+(20+n+15)/16*16+16)
		check(t, "head", out[0].Bytes[:4], "\x04\x00\x00\x00")
		up, _, errno := b.receive(1, place(1), out[0].Bytes)
		check(t, "transport", errno, api.OK)
		check(t, "packet", up[0].Packet, packet)
		check(t, "counter", up[0].Counter, uint64(n+1))
	}
}

// What is behind a packet in its box are zeros, and the head tells index and counter with the lowest byte first.
func TestSealedBytes(t *testing.T) {
	f, a := forged(t, 0)
	a.receive(0, f.at, f.sealed(""))
	out, errno := a.send(0, packet4(1, 2, 3))
	check(t, "Send", errno, api.OK)
	check(t, "head", out[0].Bytes[:16], "\x04\x00\x00\x00\x05\x00\x00\x00\x00\x00\x00\x00\x00\x00\x00\x00")
	check(t, "text", f.open(out[0].Bytes), packet4(1, 2, 3)+strings.Repeat("\x00", 9))
	for range 300 {
		out, _ = a.send(0, packet4(1, 2, 12))
	}
	check(t, "counter 300", out[0].Bytes[8:16], "\x2c\x01\x00\x00\x00\x00\x00\x00")
	check(t, "text of 32", f.open(out[0].Bytes), packet4(1, 2, 12))
}

func TestSendToNobodyKnown(t *testing.T) {
	a := newEnd(t, configOf(keyA, peerOf(2, false)))
	for i := range 9 {
		out, errno := a.send(i, packet4(1, 2, i))
		check(t, "Send", errno, api.ErrKey)
		check(t, "Send", long(out), "")
	}
	s := a.state(0)
	check(t, "staged", s.Staged, 8)
	check(t, "Trying", s.Trying, false)
	check(t, "Tries", s.Tries, 0)
	check(t, "Next", a.x.Next(), -1)
	check(t, "Tick", len(a.tick(100000)), 0)
	check(t, "staged without a hand", a.state(0).Staged, 8)
	check(t, "Sent", a.x.Counts().Sent, 0)
}

// Of a key that leads to no secret there is no initiation, nor is its stamp used up.
func TestSendToZeroKey(t *testing.T) {
	zero := api.PeerConfig{Known: true, Endpoint: place(9), Allowed: list(prefix4(32, 10, 0, 0, 9))}
	a := newEnd(t, configOf(keyA, zero, peerOf(2, true)))
	out, errno := a.send(5, packet4(1, 9, 0))
	check(t, "Send", errno, api.ErrKey)
	check(t, "Send", long(out), "")
	check(t, "Trying", a.state(0).Trying, false)
	check(t, "staged", a.state(0).Staged, 1)
	check(t, "Next", a.x.Next(), -1)
	out, _ = a.send(5, packet4(1, 2, 0))
	check(t, "the stamp of another", stampOf(t, keyB, one(t, out)), noise.Stamp(5))
}

func stampOf(t *testing.T, own [32]byte, message string) [12]byte {
	t.Helper()
	_, stamp, errno := noise.Accept(own, message)
	check(t, "Accept", errno, api.OK)
	return stamp
}

func TestSendRekeys(t *testing.T) {
	a, b := ends(t)
	shaken(t, a, b, 1000)
	out, errno := a.send(120999, packet4(1, 2, 0))
	check(t, "ahead of it", errno, api.OK)
	check(t, "ahead of it", long(out), "64")
	out, errno = b.send(121000, packet4(2, 1, 0))
	check(t, "the end that answered", errno, api.OK)
	check(t, "the end that answered", long(out), "64")
	out, errno = a.send(121000, packet4(1, 2, 0))
	check(t, "due", errno, api.OK)
	check(t, "due", long(out), "64 148")
	out, errno = a.send(127000, packet4(1, 2, 0))
	check(t, "under way", errno, api.OK)
	check(t, "under way", long(out), "64")
	check(t, "Tries", a.state(0).Tries, 1)
}

func TestSendByOldKeypair(t *testing.T) {
	a, b := ends(t)
	shaken(t, a, b, 1000)
	out, errno := b.send(180999, packet4(2, 1, 0))
	check(t, "ahead of it", errno, api.OK)
	check(t, "ahead of it", long(out), "64")
	out, errno = b.send(181000, packet4(2, 1, 0))
	check(t, "old", errno, api.ErrKey)
	check(t, "old", long(out), "148")
	out, errno = b.send(181000, packet4(2, 1, 0))
	check(t, "under way", errno, api.ErrKey)
	check(t, "under way", long(out), "")
	check(t, "staged", b.state(0).Staged, 2)
}

func TestTimeNeverGoesBack(t *testing.T) {
	a, b := ends(t)
	_, errno := a.send(9000, "wrong")
	check(t, "Send", errno, api.ErrSize)
	out, _ := a.send(-5, packet4(1, 2, 0))
	check(t, "stamp", stampOf(t, keyB, one(t, out)), noise.Stamp(9000))
	check(t, "Next", a.x.Next(), 14000)
	b.refuses("wrong", 7000, "wrong", api.ErrType)
	b.receive(3, place(1), one(t, out))
	check(t, "Born", b.state(0).Slots[0].Born, 7000)
	b.tick(8000)
	out, _ = b.send(0, packet4(2, 1, 0))
	check(t, "behind Tick", stampOf(t, keyA, one(t, out)), noise.Stamp(8000))
	c := newEnd(t, configOf(keyA, peerOf(2, true)))
	out, _ = c.send(-1, packet4(1, 2, 0))
	check(t, "below 0", stampOf(t, keyB, one(t, out)), noise.Stamp(0))
}

// No two initiations have one stamp, whoever they go to.
func TestStamps(t *testing.T) {
	a := newEnd(t, configOf(keyA, peerOf(2, true), peerOf(3, true)))
	x, _ := a.send(100, packet4(1, 2, 0))
	y, _ := a.send(100, packet4(1, 3, 0))
	check(t, "first", stampOf(t, keyB, one(t, x)), noise.Stamp(100))
	check(t, "second", stampOf(t, keyC, one(t, y)), noise.Stamp(101))
	both := a.tick(5100)
	check(t, "Tick", long(both), "148 148")
	check(t, "third", stampOf(t, keyB, both[0].Bytes), noise.Stamp(5100))
	check(t, "fourth", stampOf(t, keyC, both[1].Bytes), noise.Stamp(5101))
	both = a.tick(api.MaxTime + 20000)
	check(t, "given up", long(both), "")
	x, _ = a.send(0, packet4(1, 2, 0))
	y, _ = a.send(0, packet4(1, 3, 0))
	check(t, "beyond MaxTime", stampOf(t, keyB, one(t, x)), noise.Stamp(api.MaxTime))
	check(t, "beyond MaxTime", stampOf(t, keyC, one(t, y)), noise.Stamp(api.MaxTime))
}

// drawnBy are the index and the ephemeral private key that the chapter draws for a number.
func drawnBy(draw [32]byte, n byte) (uint32, [32]byte) {
	keys, _ := blake.Chain(2, draw, "adit"+string([]byte{n}))
	return binary.LittleEndian.Uint32(keys[1][:4]), keys[0]
}

func indexAt(message string, at int) uint32 {
	return binary.LittleEndian.Uint32([]byte(message[at : at+4]))
}

func TestDrawn(t *testing.T) {
	a := newEnd(t, configOf(keyA, peerOf(2, true), peerOf(3, true)))
	draw := [32]byte{200, 31: 1}
	zero, key := drawnBy(draw, 0)
	x, _ := a.sendBy(0, draw, packet4(1, 2, 0))
	check(t, "index for 0", indexAt(one(t, x), 4), zero)
	ephemeral := curve.Public(key)
	check(t, "ephemeral key for 0", x[0].Bytes[8:40], string(ephemeral[:]))
	y, _ := a.sendBy(0, draw, packet4(1, 3, 0))
	next, _ := drawnBy(draw, 1)
	check(t, "index for 1", indexAt(one(t, y), 4), next)
	both := a.tickBy(5000, draw)
	check(t, "its hand has it", indexAt(both[0].Bytes, 4), zero+1)
	both = a.tickBy(10000, draw)
	check(t, "another hand has the next", indexAt(both[0].Bytes, 4), zero)
}

// An index that any peer's hand or keypair has is nobody else's.
func TestDrawnIndexIsFree(t *testing.T) {
	f, a := forged(t, 0)
	other := &forger{t: t, own: keyC, to: a, at: place(3)}
	draw := [32]byte{1, 2, 3}
	zero, _ := drawnBy(draw, 0)
	message, _ := f.initiation(noise.Stamp(60), 8, "")
	_, x, errno := a.receiveBy(60, draw, place(2), message)
	check(t, "initiation", errno, api.OK)
	check(t, "index of the response", indexAt(one(t, x), 4), zero)
	message, _ = f.initiation(noise.Stamp(120), 9, "")
	_, x, _ = a.receiveBy(120, draw, place(2), message)
	check(t, "while a keypair has it", indexAt(one(t, x), 4), zero+1)
	message, _ = f.initiation(noise.Stamp(180), 10, "")
	_, x, _ = a.receiveBy(180, draw, place(2), message)
	check(t, "when it is gone", indexAt(one(t, x), 4), zero)

	// The third host's hand takes what is drawn for the second one, and the next one too.
	message, _ = other.initiation(noise.Stamp(240), 11, "")
	a.receive(240, place(3), message)
	a.send(240, packet4(1, 3, 0))
	a.x.peers[1].try.hand.Local = zero + 1
	a.m.peers[1].hand.Local = zero + 1
	message, _ = f.initiation(noise.Stamp(300), 12, "")
	_, x, _ = a.receiveBy(300, draw, place(2), message)
	check(t, "a keypair and another's hand", indexAt(one(t, x), 4), zero+2)
}

// P11.3

func TestReceiveForms(t *testing.T) {
	a, _ := ends(t)
	for _, b := range []string{"", "\x01", "\x01\x00\x00", "\x05\x01\x00", "\x00\x00\x00"} {
		a.refuses("fewer than 4", 0, b, api.ErrSize)
	}
	for _, kind := range []byte{0, 5, 6, 128, 255} {
		a.refuses("no kind", 0, string([]byte{kind, 0, 0, 0}), api.ErrType)
		a.refuses("no kind, longer", 0, string([]byte{kind, 0, 0, 0})+strings.Repeat("\x00", 144), api.ErrType)
	}
	for kind := range byte(4) {
		for at := range 3 {
			b := []byte{kind + 1, 0, 0, 0}
			b[at+1] = 1 << (kind * 2)
			a.refuses("bytes that are not 0", 0, string(b), api.ErrType)
		}
		a.refuses("nothing behind the kind", 0, string([]byte{kind + 1, 0, 0, 0}), api.ErrSize)
	}
	c := a.x.Counts()
	check(t, "Good", c.Good, 0)
	check(t, "ErrSize", c.Bad[api.ErrSize], 9)
	check(t, "ErrType", c.Bad[api.ErrType], 22)
}

func TestInitiationErrors(t *testing.T) {
	f, a := forged(t, 1000)
	own := a.x.Public()
	message, _ := f.initiation(noise.Stamp(3000), 6, "")
	now := 3000
	next := func() int { now += 200; return now } // so slow that there is no load
	a.refuses("147 bytes", next(), message[:147], api.ErrSize)
	a.refuses("149 bytes", next(), message+"x", api.ErrSize)
	a.refuses("92 bytes", next(), message[:92], api.ErrSize)
	a.refuses("another mark", next(), changed(message, 116), api.ErrMac)
	a.refuses("another index, the same mark", next(), changed(message, 4), api.ErrMac)
	toB, _ := noise.Mark(message[:116], curve.Public(keyB), "")
	a.refuses("a mark to somebody else", next(), toB, api.ErrMac)
	a.refuses("another key in the box", next(), remarked(message, own, 50, 1), api.ErrOpen)
	a.refuses("another stamp in the box", next(), remarked(message, own, 100, 1), api.ErrOpen)
	zeros, _ := noise.Mark(message[:8]+strings.Repeat("\x00", 32)+message[40:116], own, "")
	a.refuses("an ephemeral key of zeros", next(), zeros, api.ErrZero)
	stranger := &forger{t: t, own: [32]byte{40}, to: a}
	strange, _ := stranger.initiation(noise.Stamp(3000), 6, "")
	a.refuses("a stranger", next(), strange, api.ErrPeer)
	_, _, errno := a.receive(next(), place(2), message)
	check(t, "the message itself", errno, api.OK)
	_, _, errno = a.receive(next(), place(2), changed(mustLater(f, 7, now), 140))
	check(t, "the second mark is of no account", errno, api.OK)
}

func mustLater(f *forger, index uint32, now int) string {
	message, _ := f.initiation(noise.Stamp(now), index, "")
	return message
}

func TestInitiationStaleAndFlood(t *testing.T) {
	f, a := forged(t, 10000)
	a.refuses("the same stamp", 12500, mustLater(f, 6, 10000), api.ErrStale)
	a.refuses("an earlier one", 12700, mustLater(f, 6, 9999), api.ErrStale)
	_, _, errno := a.receive(12800, place(2), mustLater(f, 6, 10001))
	check(t, "a later one", errno, api.OK)
	a.refuses("soon and stale", 12810, mustLater(f, 7, 10001), api.ErrStale)
	a.refuses("too soon", 12849, mustLater(f, 7, 20000), api.ErrFlood)
	_, _, errno = a.receive(12850, place(2), mustLater(f, 7, 10002))
	check(t, "behind 50", errno, api.OK) // what was too soon did not count, nor did its stamp
	other := &forger{t: t, own: keyC, to: a, at: place(3)}
	_, _, errno = a.receive(12850, place(3), mustLater(other, 7, 5))
	check(t, "another peer's are of no account", errno, api.OK)
}

// At first there is no stamp that another one must be later than.
func TestInitiationWithStampOfZeros(t *testing.T) {
	a, _ := ends(t)
	f := &forger{t: t, own: keyB, to: a}
	message, _ := f.initiation([12]byte{}, 6, "")
	_, _, errno := a.receive(0, place(2), message)
	check(t, "zeros", errno, api.OK)
	a.refuses("zeros once more", 100, message, api.ErrStale)
}

func TestInitiationAccepted(t *testing.T) {
	a := newEnd(t, configOf(keyA, peerOf(2, false), peerOf(3, true)))
	f := &forger{t: t, own: keyB, to: a}
	message, hand := f.initiation(noise.Stamp(100), 6, "")
	up, out, errno := a.receive(100, place(55), message)
	check(t, "initiation", errno, api.OK)
	check(t, "handed up", len(up), 0)
	check(t, "size", long(out), "92")
	check(t, "to", out[0].To, place(55))
	check(t, "marked", noise.Marked(out[0].Bytes, curve.Public(keyB)), true)
	check(t, "no second mark", out[0].Bytes[76:], strings.Repeat("\x00", 16))
	pair, errno := noise.Finish(keyB, hand, [32]byte{9}, out[0].Bytes)
	check(t, "Finish", errno, api.OK)
	s := a.state(0)
	check(t, "Known", s.Known, true)
	check(t, "Endpoint", s.Endpoint, place(55))
	check(t, "Trying", s.Trying, false)
	check(t, "slots", len(s.Slots), 1)
	check(t, "slot", s.Slots[0], api.Slot{Which: api.Next, Epoch: 1, Local: pair.Far, Far: 6, Born: 100})
	check(t, "the other peer", flat(a.state(1)), flat(api.PeerState{Known: true, Endpoint: place(3)}))
	c := a.x.Counts()
	check(t, "Good", c.Good, 1)
	check(t, "Sent", c.Sent, 1)
	_, errno = a.send(100, packet4(1, 2, 0))
	check(t, "nothing is sealed yet", errno, api.ErrKey)
}

func TestInitiationWhileHandIsUnderWay(t *testing.T) {
	a, b := ends(t)
	x, _ := a.send(0, packet4(1, 2, 0))
	y, _ := b.send(0, packet4(2, 1, 0))
	_, toB, errno := a.receive(0, place(2), one(t, y))
	check(t, "at a", errno, api.OK)
	check(t, "a still tries", a.state(0).Trying, true)
	_, toA, errno := b.receive(0, place(1), one(t, x))
	check(t, "at b", errno, api.OK)
	_, sealedA, errno := a.receive(0, place(2), one(t, toA))
	check(t, "a's response", errno, api.OK)
	_, sealedB, errno := b.receive(0, place(1), one(t, toB))
	check(t, "b's response", errno, api.OK)
	up, _, errno := b.receive(0, place(1), one(t, sealedA))
	check(t, "at b", errno, api.OK)
	check(t, "at b", up[0].Packet, packet4(1, 2, 0))
	up, _, errno = a.receive(0, place(2), one(t, sealedB))
	check(t, "at a", errno, api.OK)
	check(t, "at a", up[0].Packet, packet4(2, 1, 0))
}

func TestResponseErrors(t *testing.T) {
	a, b := ends(t)
	own := a.x.Public()
	x, _ := a.send(1000, packet4(1, 2, 0))
	_, y, _ := b.receive(1000, place(1), one(t, x))
	message := one(t, y)
	now := 1000
	next := func() int { now += 200; return now }
	a.refuses("91 bytes", next(), message[:91], api.ErrSize)
	a.refuses("93 bytes", next(), message+"x", api.ErrSize)
	a.refuses("148 bytes", next(), message+strings.Repeat("x", 56), api.ErrSize)
	a.refuses("another mark", next(), changed(message, 60), api.ErrMac)
	a.refuses("another one's index", next(), remarked(message, own, 8, 1), api.ErrIndex)
	a.refuses("another one's index, its last byte", next(), remarked(message, own, 11, 1), api.ErrIndex)
	a.refuses("another box", next(), remarked(message, own, 45, 1), api.ErrOpen)
	zeros, _ := noise.Mark(message[:12]+strings.Repeat("\x00", 32)+message[44:60], own, "")
	a.refuses("an ephemeral key of zeros", next(), zeros, api.ErrZero)
	check(t, "still trying", a.state(0).Trying, true)
	_, out, errno := a.receive(next(), place(2), changed(message, 80))
	check(t, "the second mark is of no account", errno, api.OK)
	check(t, "the staged", long(out), "64")
	a.refuses("once more", next(), message, api.ErrIndex)
	b.refuses("at who sent it", now, message, api.ErrMac)
}

func TestResponseAccepted(t *testing.T) {
	a, b := ends(t)
	shaken(t, a, b, 0)
	x, _ := a.send(120000, packet4(1, 2, 0))
	_, y, _ := b.receive(120001, place(1), x[1].Bytes)
	_, out, errno := a.receive(120002, place(66), one(t, y))
	check(t, "response", errno, api.OK)
	check(t, "nothing is staged", long(out), "32")
	check(t, "to", out[0].To, place(66))
	s := a.state(0)
	check(t, "Endpoint", s.Endpoint, place(66))
	check(t, "Trying", s.Trying, false)
	check(t, "Tries", s.Tries, 0)
	check(t, "slots", len(s.Slots), 2)
	check(t, "current", s.Slots[1], api.Slot{Which: api.Current, Epoch: 2, Local: indexAt(y[0].Bytes, 8), Far: indexAt(y[0].Bytes, 4), First: true, Born: 120002, Sent: 1})
	up, _, errno := b.receive(120003, place(1), one(t, out))
	check(t, "the empty packet", errno, api.OK)
	check(t, "the empty packet", len(up), 0)
	check(t, "current at b", b.state(0).Slots[1].Epoch, 2)
}

// A peer without a hand has no index for its own, not even 0.
func TestIndexOfNoHand(t *testing.T) {
	f, a := forged(t, 0)
	message, _ := noise.Mark("\x02\x00\x00\x00"+strings.Repeat("\x00", 56), a.x.Public(), "")
	a.refuses("a response", 10, message, api.ErrIndex)
	a.refuses("a cookie", 10, "\x03"+strings.Repeat("\x00", 63), api.ErrIndex)
	message, _ = noise.Mark("\x02\x00\x00\x00\x00\x00\x00\x00"+f.sealed("")[4:8]+strings.Repeat("\x00", 48), a.x.Public(), "")
	a.refuses("a response to a keypair", 10, message, api.ErrIndex)
}

// A response to a hand that another initiation has taken the place of finds none.
func TestResponseToHandThatIsGone(t *testing.T) {
	a, b := ends(t)
	x, _ := a.send(0, packet4(1, 2, 0))
	y := a.tick(5000)
	_, first, _ := b.receive(5000, place(1), one(t, x))
	_, second, _ := b.receive(5050, place(1), one(t, y))
	a.refuses("the first one", 5100, one(t, first), api.ErrIndex)
	_, out, errno := a.receive(5100, place(2), one(t, second))
	check(t, "the second one", errno, api.OK)
	check(t, "the second one", long(out), "64")
}

// loadUp has so many marked messages of a stranger come.
func loadUp(a *end, now, n int) {
	a.t.Helper()
	stranger := &forger{t: a.t, own: [32]byte{40}, to: a}
	message, _ := stranger.initiation(noise.Stamp(0), 1, "")
	for range n {
		_, _, errno := a.receive(now, place(40), message)
		if errno != api.ErrPeer && errno != api.ErrLoad {
			a.t.Fatalf("stranger: %v", errno)
		}
	}
}

func TestLoadEdges(t *testing.T) {
	a, _ := ends(t)
	loadUp(a, 0, 4)
	check(t, "4", a.x.Loaded(), false)
	loadUp(a, 1, 3)
	check(t, "7", a.x.Loaded(), false)
	loadUp(a, 999, 1)
	check(t, "8 within 999", a.x.Loaded(), true)
	a.tick(999)
	check(t, "at 999", a.x.Loaded(), true)
	a.tick(1000)
	check(t, "at 1000", a.x.Loaded(), false)
	loadUp(a, 1000, 3)
	check(t, "7 since 1", a.x.Loaded(), false)
	loadUp(a, 1000, 1)
	check(t, "8 since 1", a.x.Loaded(), true)
	a.send(1000, "")
	check(t, "at 1000", a.x.Loaded(), true)
	a.send(1001, "")
	check(t, "at 1001, by a Send that told nothing else", a.x.Loaded(), false)
	loadUp(a, 1001, 20)
	check(t, "many", a.x.Loaded(), true)
	a.receive(2000, place(1), "")
	check(t, "many, at 2000", a.x.Loaded(), true)
	a.receive(2001, place(1), "")
	check(t, "many, at 2001", a.x.Loaded(), false)
}

// Only what is Marked counts, and both kinds of it do.
func TestLoadCounts(t *testing.T) {
	a, b := ends(t)
	x, _ := a.send(0, packet4(1, 2, 0))
	_, y, _ := b.receive(0, place(1), one(t, x))
	response, initiation := one(t, y), mustLater(&forger{t: t, own: keyB, to: a}, 4, 0)
	for range 10 {
		a.refuses("not marked", 0, changed(response, 60), api.ErrMac)
		a.refuses("not marked", 0, changed(initiation, 116), api.ErrMac)
		a.refuses("a wrong size", 0, initiation+"x", api.ErrSize)
		a.refuses("a cookie", 0, "\x03"+strings.Repeat("\x00", 63), api.ErrIndex)
		a.refuses("transport", 0, "\x04"+strings.Repeat("\x00", 63), api.ErrIndex)
	}
	check(t, "none", a.x.Loaded(), false)
	for range 7 {
		a.refuses("marked", 0, remarked(response, a.x.Public(), 8, 1), api.ErrIndex)
	}
	check(t, "7", a.x.Loaded(), false)
	_, out, errno := a.receive(0, place(2), initiation)
	check(t, "the eighth", errno, api.ErrLoad)
	check(t, "the eighth", long(out), "64")
	check(t, "8", a.x.Loaded(), true)
	_, out, errno = a.receive(0, place(2), response)
	check(t, "a response under load", errno, api.ErrLoad)
	check(t, "a response under load", long(out), "64")
	check(t, "it still tries", a.state(0).Trying, true)
	check(t, "Sent", a.x.Counts().Sent, 3)
}

func TestLoadedEndAsksForCookie(t *testing.T) {
	a, b := ends(t)
	loadUp(b, 1000, 7)
	x, _ := a.send(1000, packet4(1, 2, 0))
	draw := [32]byte{90}
	before := flat(b.state(0))
	_, y, errno := b.receiveBy(1000, draw, place(55), one(t, x))
	check(t, "under load", errno, api.ErrLoad)
	check(t, "to", y[0].To, place(55))
	check(t, "peer", flat(b.state(0)), before)
	box := one(t, y)
	check(t, "head", box[:8], "\x03\x00\x00\x00"+x[0].Bytes[4:8])
	keys, _ := blake.Chain(2, draw, "adit\xff")
	check(t, "nonce", box[8:32], string(keys[1][4:28]))
	cookie, errno := noise.Unbox(b.x.Public(), x[0].Bytes[116:132], box)
	check(t, "Unbox", errno, api.OK)
	check(t, "cookie", cookie, noise.Cookie(secretAt(keyB, 0), place(55)))

	up, out, errno := a.receive(1000, place(2), box)
	check(t, "the cookie", errno, api.OK)
	check(t, "the cookie", len(up)+len(out), 0)
	again := one(t, a.tick(6000))
	check(t, "cookied", noise.Cookied(again, cookie), true)
	loadUp(b, 6000, 8)
	_, y, errno = b.receive(6000, place(56), again)
	check(t, "from elsewhere", errno, api.ErrLoad)
	check(t, "from elsewhere", long(y), "64")
	_, y, errno = b.receive(6000, place(55), again)
	check(t, "from there", errno, api.OK)
	check(t, "from there", long(y), "92")
}

func secretAt(private [32]byte, n uint64) [32]byte {
	return blake.Sum("secret", string(private[:]), string(binary.LittleEndian.AppendUint64(nil, n)))
}

// Each CookieLife has its own secret.
func TestSecretGoesByTime(t *testing.T) {
	for _, now := range []int{0, 119999, 120000, 239999, 240000, 120000 * 258} {
		a, _ := ends(t)
		loadUp(a, now, 8)
		f := &forger{t: t, own: keyB, to: a}
		n := uint64(now / 120000)
		cookie := noise.Cookie(secretAt(keyA, n), place(2))
		message, _ := f.initiation(noise.Stamp(now), 1, cookie)
		stale, _ := f.initiation(noise.Stamp(now), 1, noise.Cookie(secretAt(keyA, n+1), place(2)))
		_, _, errno := a.receive(now, place(2), stale)
		check(t, "another secret", errno, api.ErrLoad)
		_, _, errno = a.receive(now, place(2), message)
		check(t, "its secret", errno, api.OK)
	}
}

func TestCookieErrors(t *testing.T) {
	a, b := ends(t)
	x, _ := a.send(0, packet4(1, 2, 0))
	loadUp(b, 0, 7)
	_, y, _ := b.receive(0, place(1), one(t, x))
	box := one(t, y)
	a.refuses("63 bytes", 0, box[:63], api.ErrSize)
	a.refuses("65 bytes", 0, box+"x", api.ErrSize)
	a.refuses("63 bytes and another index", 0, changed(box, 4)[:63], api.ErrSize)
	a.refuses("65 bytes and another index", 0, changed(box, 4)+"x", api.ErrSize)
	a.refuses("another index", 0, changed(box, 4), api.ErrIndex)
	a.refuses("another index, its last byte", 0, changed(box, 7), api.ErrIndex)
	a.refuses("another nonce", 0, changed(box, 8), api.ErrOpen)
	a.refuses("another box", 0, changed(box, 40), api.ErrOpen)
	again := one(t, a.tick(5000))
	check(t, "no cookie yet", again[132:], strings.Repeat("\x00", 16))
	a.refuses("an answer to the first one", 5000, box, api.ErrIndex)
	mended := box[:4] + again[4:8] + box[8:]
	a.refuses("an answer to the first one, by the index of the second", 5000, mended, api.ErrOpen)
}

func TestCookieLife(t *testing.T) {
	for _, c := range []struct {
		at    int
		fresh bool
	}{{125000 - 1, true}, {125000, false}} {
		a, b := ends(t)
		a.tick(5000)
		x, _ := a.send(5000, packet4(1, 2, 0))
		loadUp(b, 5000, 7)
		_, y, _ := b.receive(5000, place(1), one(t, x))
		_, _, errno := a.receive(5000, place(2), one(t, y))
		check(t, "cookie", errno, api.OK)
		a.tick(c.at) // the hand is given up
		x, _ = a.send(c.at, packet4(1, 2, 0))
		check(t, "a second mark", one(t, x)[132:] != strings.Repeat("\x00", 16), c.fresh)
	}
}

// A response is marked by the cookie too, and its own first mark is the one that counts then; a keypair's index will do.
func TestCookieForResponse(t *testing.T) {
	a, b := ends(t)
	x, _ := a.send(0, packet4(1, 2, 0))
	_, y, _ := b.receive(0, place(1), one(t, x))
	response := one(t, y)
	loadUp(a, 0, 7)
	_, z, errno := a.receive(0, place(2), response)
	check(t, "a response under load", errno, api.ErrLoad)
	cookie := noise.Cookie(secretAt(keyA, 0), place(2))
	_, out, errno := b.receive(10, place(1), one(t, z))
	check(t, "its cookie", errno, api.OK)
	check(t, "its cookie", len(out), 0)
	x = a.tick(5000)
	_, y, errno = b.receive(5000, place(1), one(t, x))
	check(t, "initiation", errno, api.OK)
	check(t, "cookied", noise.Cookied(one(t, y), cookie), true)
	loadUp(a, 5000, 8)
	_, z, errno = a.receive(5000, place(2), one(t, y))
	check(t, "a cookied response under load", errno, api.OK)
	check(t, "a cookied response under load", long(z), "64")
	b.refuses("the cookie once more", 5000, "\x03\x00\x00\x00"+strings.Repeat("\xff", 60), api.ErrIndex)
}

func TestTransportErrors(t *testing.T) {
	f, a := forged(t, 1000)
	message := f.sealed("")
	check(t, "the least", len(message), 32)
	a.refuses("31 bytes", 1000, message[:31], api.ErrSize)
	a.refuses("31 bytes and another index", 1000, changed(message, 4)[:31], api.ErrSize)
	a.refuses("16 bytes", 1000, message[:16], api.ErrSize)
	a.refuses("another index", 1000, changed(message, 4), api.ErrIndex)
	a.refuses("another index, its last byte", 1000, changed(message, 7), api.ErrIndex)
	a.refuses("another counter", 1000, changed(message, 8), api.ErrOpen)
	a.refuses("another counter, its last byte but one", 1000, changed(message, 14), api.ErrOpen)
	a.refuses("another box", 1000, changed(message, 31), api.ErrOpen)
	a.refuses("a longer one", 1000, message+"x", api.ErrOpen)
	last := []byte(message)
	binary.LittleEndian.PutUint64(last[8:], api.LastCounter)
	a.refuses("the last counter", 1000, string(last), api.ErrReplay)
	_, _, errno := a.receive(1000, place(2), message)
	check(t, "the message itself", errno, api.OK)
	a.refuses("once more", 1000, message, api.ErrReplay)
	a.send(2000, packet4(1, 3, 0)) // nobody knows where the third one is
	message = f.sealed("")
	a.refuses("an old keypair", 181000, message, api.ErrKey)
	a.tick(181000)
	a.refuses("one that is gone", 181000, message, api.ErrIndex)
}

// A hand's index is no keypair's.
func TestTransportToHand(t *testing.T) {
	a, _ := ends(t)
	x, _ := a.send(0, packet4(1, 2, 0))
	a.refuses("a hand's index", 0, "\x04\x00\x00\x00"+x[0].Bytes[4:8]+strings.Repeat("\x00", 24), api.ErrIndex)
}

func TestTransportRoams(t *testing.T) {
	a, b := ends(t)
	shaken(t, a, b, 0)
	x, _ := a.send(0, packet4(1, 2, 0))
	_, _, errno := b.receive(0, place(88), one(t, x))
	check(t, "transport", errno, api.OK)
	check(t, "Endpoint", b.state(0).Endpoint, place(88))
	y, _ := b.send(0, packet4(2, 1, 0))
	check(t, "to", y[0].To, place(88))
	anywhere := api.Endpoint{Addr: addr4(1, 2, 3, 4, 5), Port: -3}
	x, _ = a.send(0, packet4(1, 2, 0))
	b.receive(0, anywhere, one(t, x))
	check(t, "any endpoint", b.state(0).Endpoint, anywhere)
}

func TestTransportHandsUp(t *testing.T) {
	f, a := forged(t, 0)
	a.receive(0, f.at, f.sealed(""))
	four, six := packet4(2, 1, 5), packet6(2, 1, 5)
	zeros := strings.Repeat("\x00", 50)
	for _, c := range []struct {
		what, text, packet string
		want               api.Errno
	}{
		{"a packet", four, four, api.OK},
		{"of version 6", six, six, api.OK},
		{"with zeros behind it", four + zeros, four, api.OK},
		{"with other bytes behind it", six + "abc", six, api.OK},
		{"the least of version 4", packet4(2, 1, 0), packet4(2, 1, 0), api.OK},
		{"the least of version 6", packet6(2, 1, 0), packet6(2, 1, 0), api.OK},
		{"more than MTU", packet4(2, 1, 3000), packet4(2, 1, 3000), api.OK},
		{"to nobody", packet4(2, 200, 0), packet4(2, 200, 0), api.OK},
		{"the greatest", packet4(2, 1, 65515), packet4(2, 1, 65515), api.OK},
		{"nothing", "", "", api.OK},
		{"one byte", "\x45", "", api.ErrSize},
		{"zeros", zeros, "", api.ErrSize},
		{"version 5", "\x55" + four[1:], "", api.ErrSize},
		{"19 bytes", four[:19], "", api.ErrSize},
		{"19 in its length", "\x45\x00\x00\x13" + four[4:], "", api.ErrSize},
		{"0 in its length", "\x45\x00\x00\x00" + four[4:], "", api.ErrSize},
		{"one byte less", four[:24], "", api.ErrSize},
		{"256 more in its length", four[:2] + "\x01" + four[3:] + zeros, "", api.ErrSize},
		{"39 bytes of version 6", six[:39], "", api.ErrSize},
		{"one byte less of version 6", six[:44], "", api.ErrSize},
		{"another peer's", packet4(3, 1, 0), "", api.ErrSource},
		{"another peer's of version 6", packet6(3, 1, 0), "", api.ErrSource},
		{"nobody's", packet4(4, 1, 0), "", api.ErrSource},
		{"its own bytes, of the other version", packet4(0xfd, 1, 0), "", api.ErrSource},
		{"another peer's and too short", packet4(3, 1, 5)[:24], "", api.ErrSize},
	} {
		counter := f.counter
		good, bad := a.x.Counts().Good, a.x.Counts().Bad[c.want]
		from := place(byte(100 + counter))
		up, out, errno := a.receive(0, from, f.sealed(c.text))
		check(t, c.what, errno, c.want)
		check(t, c.what+": sent", len(out), 0)
		check(t, c.what+": known", a.state(0).Endpoint, from)
		if c.packet != "" {
			check(t, c.what+": handed up", len(up), 1)
			check(t, c.what, up[0], api.Inner{Peer: 0, Epoch: 1, Counter: counter, Packet: c.packet})
		} else {
			check(t, c.what+": handed up", len(up), 0)
		}
		if c.want == api.OK {
			check(t, c.what+": Good", a.x.Counts().Good, good+1)
		} else {
			check(t, c.what+": Bad", a.x.Counts().Bad[c.want], bad+1)
		}
	}
}

// Whose a source is goes by the longest prefix, not by any that has it.
func TestTransportSourceByLongestPrefix(t *testing.T) {
	two, three := peerOf(2, false), peerOf(3, false)
	two.Allowed = list(prefix4(8, 10), prefix4(32, 10, 0, 0, 7))
	three.Allowed = list(prefix4(24, 10))
	a := newEnd(t, configOf(keyA, three, two))
	f := &forger{t: t, own: keyB, to: a, at: place(2)}
	f.shake(0, 1)
	up, _, errno := a.receive(0, f.at, f.sealed(packet4(7, 1, 0)))
	check(t, "10.0.0.7", errno, api.OK)
	check(t, "Peer", up[0].Peer, 1)
	_, _, errno = a.receive(0, f.at, f.sealed(packet4(8, 1, 0)))
	check(t, "10.0.0.8", errno, api.ErrSource)
	wide := []byte(packet4(8, 1, 0))
	wide[14] = 1
	up, _, errno = a.receive(0, f.at, f.sealed(string(wide)))
	check(t, "10.0.1.8", errno, api.OK)
	check(t, "handed up", len(up), 1)
}

// With these two errors all else has become of it.
func TestTransportErrorsOfTextComeLast(t *testing.T) {
	for text, want := range map[string]api.Errno{packet4(3, 1, 0): api.ErrSource, "x": api.ErrSize} {
		a := newEnd(t, configOf(keyA, peerOf(2, false), peerOf(3, false)))
		f := &forger{t: t, own: keyB, to: a, at: place(2)}
		_, errno := a.send(0, packet4(1, 2, 0))
		check(t, "Send", errno, api.ErrKey)
		f.shake(0, 5)
		up, out, errno := a.receive(0, place(90), f.sealed(text))
		check(t, "transport", errno, want)
		check(t, "handed up", len(up), 0)
		check(t, "the staged", long(out), "64")
		check(t, "to", out[0].To, place(90))
		check(t, "text", f.open(out[0].Bytes)[:20], packet4(1, 2, 0))
		check(t, "staged", a.state(0).Staged, 0)
		check(t, "current", a.state(0).Slots[0].Which, api.Current)
		f.counter--
		a.refuses("its counter came", 0, f.sealed(text), api.ErrReplay)
	}
}

func TestTransportWantsHandshake(t *testing.T) {
	a, b := ends(t)
	shaken(t, a, b, 0)
	early, _ := b.send(1, packet4(2, 1, 0))
	late, _ := b.send(1, packet4(2, 1, 0))
	later, _ := b.send(1, packet4(2, 1, 0))
	other, _ := a.send(1, packet4(1, 2, 0))
	_, out, errno := a.receive(164999, place(2), one(t, early))
	check(t, "ahead of it", errno, api.OK)
	check(t, "ahead of it", long(out), "")
	up, out, errno := a.receive(165000, place(44), one(t, late))
	check(t, "due", errno, api.OK)
	check(t, "due", long(out), "148")
	check(t, "to", out[0].To, place(44))
	check(t, "handed up too", len(up), 1)
	_, out, errno = a.receive(171000, place(2), one(t, later))
	check(t, "under way", errno, api.OK)
	check(t, "under way", long(out), "")
	_, out, errno = b.receive(171000, place(1), one(t, other))
	check(t, "the end that answered", errno, api.OK)
	check(t, "the end that answered", long(out), "")
}

// P11.4

func TestTickTries(t *testing.T) {
	a, _ := ends(t)
	check(t, "without anything", a.x.Next(), -1)
	first, _ := a.send(100, packet4(1, 2, 0))
	check(t, "Next", a.x.Next(), 5100)
	check(t, "ahead of it", long(a.tick(5099)), "")
	second := a.tick(5100)
	check(t, "due", long(second), "148")
	check(t, "to", second[0].To, place(2))
	check(t, "another message", one(t, first) != one(t, second), true)
	check(t, "Next", a.x.Next(), 10100)
	check(t, "Tries", a.state(0).Tries, 2)
	check(t, "at once again", long(a.tick(5100)), "")
	check(t, "late", long(a.tick(17000)), "148")
	check(t, "Next goes by the last one", a.x.Next(), 22000)
	check(t, "Tries", a.state(0).Tries, 3)
	check(t, "later", long(a.tick(86000)), "148")
	check(t, "Next is when the hand goes", a.x.Next(), 90100)
	check(t, "ahead of that", long(a.tick(90099)), "")
	check(t, "staged", a.state(0).Staged, 1)
	check(t, "given up", long(a.tick(90100)), "")
	check(t, "peer", flat(a.state(0)), flat(api.PeerState{Known: true, Endpoint: place(2)}))
	check(t, "Next", a.x.Next(), -1)
	check(t, "behind that", long(a.tick(99999)), "")
	out, errno := a.send(100000, packet4(1, 2, 0))
	check(t, "another hand", errno, api.ErrKey)
	check(t, "another hand", long(out), "148")
	check(t, "Tries", a.state(0).Tries, 1)
	check(t, "the time of its first one", len(a.tick(189999)), 1)
	check(t, "its end", a.x.Next(), 190000)
}

// A hand is given up even where its last initiation was just due.
func TestTickGivesUpFirst(t *testing.T) {
	a, b := ends(t)
	x, _ := a.send(0, packet4(1, 2, 0))
	check(t, "at once", long(a.tick(90000)), "")
	check(t, "Trying", a.state(0).Trying, false)
	_, y, _ := b.receive(0, place(1), one(t, x))
	a.refuses("a response to it", 90000, one(t, y), api.ErrIndex)
}

// What is staged stays while the hand does, and goes with the peer's own hand alone.
func TestTickPeerByPeer(t *testing.T) {
	a := newEnd(t, configOf(keyA, peerOf(2, true), peerOf(3, true)))
	a.send(0, packet4(1, 2, 0))
	a.send(3000, packet4(1, 3, 0))
	check(t, "Next", a.x.Next(), 5000)
	out := a.tick(5000)
	check(t, "one", long(out), "148")
	check(t, "to", out[0].To, place(2))
	check(t, "Next", a.x.Next(), 8000)
	out = a.tick(20000)
	check(t, "both", long(out), "148 148")
	check(t, "in order", out[0].To, place(2))
	check(t, "in order", out[1].To, place(3))
	out = a.tick(90000)
	check(t, "the other one's", long(out), "148")
	check(t, "the other one's", out[0].To, place(3))
	check(t, "staged", a.state(0).Staged, 0)
	check(t, "staged", a.state(1).Staged, 1)
	check(t, "Next", a.x.Next(), 93000)
}

func TestTickLetsKeypairsGo(t *testing.T) {
	a, b := ends(t)
	shaken(t, a, b, 1000)
	check(t, "Next", a.x.Next(), 181000)
	a.tick(180999)
	check(t, "ahead of it", len(a.state(0).Slots), 1)
	check(t, "Tick", long(a.tick(181000)), "")
	check(t, "old", len(a.state(0).Slots), 0)
	check(t, "Next", a.x.Next(), -1)
	out, errno := a.send(181000, packet4(1, 2, 0))
	check(t, "without one", errno, api.ErrKey)
	check(t, "without one", long(out), "148")
	x, _ := b.send(121000, packet4(2, 1, 0))
	check(t, "b", long(x), "64")
	check(t, "the least of several", b.x.Next(), 181000)
}

// Near the greatest number there are times that no number tells.
func TestTimesThatNoNumberTells(t *testing.T) {
	a, b := ends(t)
	x, errno := a.x.Send(math.MaxInt-5001, [32]byte{1}, packet4(1, 2, 0))
	check(t, "Send", errno, api.ErrKey)
	check(t, "Next", a.x.Next(), math.MaxInt-1)
	check(t, "Tick", long(a.x.Tick(math.MaxInt-1, [32]byte{2})), "148")
	check(t, "Next", a.x.Next(), -1)
	check(t, "Tick", long(a.x.Tick(math.MaxInt, [32]byte{3})), "")
	_, y, errno := b.x.Receive(math.MaxInt, [32]byte{4}, place(1), one(t, x))
	check(t, "initiation", errno, api.OK)
	check(t, "initiation", long(y), "92")
	check(t, "Next", b.x.Next(), -1)
	check(t, "Tick", long(b.x.Tick(math.MinInt, [32]byte{5})), "")
}

// P11.5

func TestPeerNumbers(t *testing.T) {
	a := newEnd(t, configOf(keyA, peerOf(2, true), peerOf(3, false)))
	for n, want := range map[int]api.Errno{math.MinInt: api.ErrArg, -1: api.ErrArg, 0: api.OK, 1: api.OK, 2: api.ErrArg, math.MaxInt: api.ErrArg} {
		s, errno := a.x.Peer(n)
		check(t, "Peer", errno, want)
		check(t, "Known", s.Known, n == 0)
	}
}

func TestToldIsItsOwners(t *testing.T) {
	a, b := ends(t)
	shaken(t, a, b, 0)
	s := a.state(0)
	s.Slots[0] = api.Slot{Epoch: 99}
	check(t, "Slots", a.state(0).Slots[0].Epoch, 1)
	out, _ := a.send(0, packet4(1, 2, 0))
	bytes := out[0].Bytes
	out[0] = api.Datagram{}
	up, _, _ := b.receive(0, place(1), bytes)
	kept := up[0]
	up[0] = api.Inner{}
	more, _ := a.send(0, packet4(1, 2, 1))
	up, _, _ = b.receive(0, place(1), one(t, more))
	check(t, "another one", up[0].Packet, packet4(1, 2, 1))
	check(t, "the first one", kept.Packet, packet4(1, 2, 0))
	c := a.x.Counts()
	c.Bad[10], c.Sent = 7, 0
	check(t, "Counts", a.x.Counts().Bad[10], 0)
	check(t, "Sent", a.x.Counts().Sent, 4)
}

func TestNoTunnel(t *testing.T) {
	for _, x := range []*Tunnel{nil, {}} {
		out, errno := x.Send(5, [32]byte{1}, packet4(1, 2, 0))
		check(t, "Send", errno, api.ErrArg)
		check(t, "Send", len(out), 0)
		_, errno = x.Send(5, [32]byte{1}, "")
		check(t, "Send of nothing", errno, api.ErrArg)
		up, out, errno := x.Receive(5, [32]byte{1}, place(1), "\x05\x00\x00\x00")
		check(t, "Receive", errno, api.ErrArg)
		check(t, "Receive", len(out)+len(up), 0)
		check(t, "Tick", len(x.Tick(5, [32]byte{1})), 0)
		check(t, "Next", x.Next(), -1)
		s, errno := x.Peer(0)
		check(t, "Peer", errno, api.ErrArg)
		check(t, "Peer", flat(s), flat(api.PeerState{}))
		check(t, "Counts", x.Counts(), api.Counts{})
		check(t, "Public", x.Public(), [32]byte{})
		check(t, "Loaded", x.Loaded(), false)
	}
}

func TestTunnelWithoutPeers(t *testing.T) {
	a := newEnd(t, configOf(keyA))
	_, errno := a.send(0, packet4(1, 2, 0))
	check(t, "Send", errno, api.ErrRoute)
	check(t, "Next", a.x.Next(), -1)
	check(t, "Tick", len(a.tick(5)), 0)
	check(t, "Public", a.x.Public(), curve.Public(keyA))
	loadUp(a, 5, 8)
	check(t, "Loaded", a.x.Loaded(), true)
}

// Sealed by the keypair of one peer, nothing is another's: the index says whose it is.
func TestOtherKeypairDoesNotOpen(t *testing.T) {
	f, a := forged(t, 0)
	other := &forger{t: t, own: keyC, to: a, at: place(3)}
	other.shake(60, 6)
	crossed := &forger{t: t, own: keyB, to: a, pair: f.pair}
	crossed.pair.Far = other.pair.Far
	a.refuses("another's index", 60, crossed.sealed(packet4(3, 1, 0)), api.ErrOpen)
	up, _, errno := a.receive(60, place(3), other.sealed(packet4(3, 1, 0)))
	check(t, "its own", errno, api.OK)
	check(t, "Peer", up[0].Peer, 1)
}
