package tunnel

import (
	"math/rand/v2"
	"strings"
	"testing"

	"adit/api"
)

// P11.6: three honest hosts, drawn ways of theirs, and a network that loses, doubles, delays and changes what goes between them. All that each end tells is held against its model on the way.

// flight is a datagram that is under way.
type flight struct {
	from  byte
	to    api.Endpoint
	bytes string
}

// given is what an end was given to send, or handed up.
type given struct {
	from, to byte
	packet   string
}

type world struct {
	t      *testing.T
	source *rand.Rand
	hosts  [3]*end
	now    int
	air    []flight
	sent   map[given]int
	came   map[given]int
}

// newWorld has hosts of which each one knows where another is by that chance of three.
func newWorld(t *testing.T, seed uint64, known int) *world {
	w := &world{t: t, source: rand.New(rand.NewPCG(seed, 11)), sent: map[given]int{}, came: map[given]int{}}
	for i := range w.hosts {
		var peers []api.PeerConfig
		for n := range byte(3) {
			if int(n) != i {
				peers = append(peers, peerOf(n+1, w.chance(known, 3)))
			}
		}
		peers[0].Allowed = append(peers[0].Allowed, prefix4(24, 10), prefix4(0)) // 10.0.0.4 is the first peer's by a shorter one
		w.hosts[i] = newEnd(t, configOf(private(byte(i+1)), peers...))
	}
	return w
}

func (w *world) chance(n, of int) bool { return w.source.IntN(of) < n }

// host is the one at an endpoint: each has several, whose numbers are its own modulo 10.
func (w *world) host(at api.Endpoint) int { return int(at.Addr.B[3]%10) - 1 }

// other is the host that a peer's number is of.
func other(host, number int) byte {
	if number >= host {
		return byte(number + 2)
	}
	return byte(number + 1)
}

// draw is, at times, one that was there before.
func (w *world) draw() [32]byte {
	if w.chance(1, 3) {
		return [32]byte{byte(w.source.IntN(2))}
	}
	return [32]byte{1, byte(w.source.Uint32()), byte(w.source.Uint32()), byte(w.source.Uint32())}
}

// time moves mostly a little, at times to the edges of what the chapter names, and is told wrong at times.
func (w *world) time() int {
	switch w.source.IntN(60) {
	case 0:
		w.now += []int{4999, 5000, 10000, 89999, 119999, 164999, 179999}[w.source.IntN(7)]
	case 1:
		return w.now - w.source.IntN(100000)
	case 2, 3, 4:
		w.now += w.source.IntN(3000)
	case 5, 6, 7, 8, 9, 10, 11, 12, 13, 14:
		w.now += w.source.IntN(60)
	}
	return w.now
}

func (w *world) fly(host int, out []api.Datagram) {
	for _, d := range out {
		w.air = append(w.air, flight{byte(host + 1), d.To, d.Bytes})
	}
}

// packet is mostly from the host to another one; at times from or to anybody, or none at all.
func (w *world) packet(host int) string {
	src, dst, n := byte(host+1), byte(1+w.source.IntN(4)), w.source.IntN(40)
	if w.chance(1, 10) {
		src = byte(1 + w.source.IntN(5))
	}
	packet := packet4(src, dst, n)
	if w.chance(1, 3) {
		packet = packet6(src, dst, n)
	}
	if w.chance(1, 20) {
		packet = packet[:w.source.IntN(len(packet))]
	}
	return packet
}

func (w *world) send() {
	w.t.Helper()
	host := w.source.IntN(3)
	e, packet := w.hosts[host], w.packet(host)
	out, errno := e.sendBy(w.time(), w.draw(), packet)
	w.fly(host, out)
	if errno == api.OK || errno == api.ErrKey {
		_, dst, _ := parts(packet)
		w.sent[given{byte(host + 1), other(host, e.m.owner(dst)), packet}]++
	}
}

// take is one of those under way, mostly an early one; the way may double, lose and change it.
func (w *world) take() flight {
	at := w.source.IntN(min(len(w.air), 4))
	if w.chance(1, 5) {
		at = w.source.IntN(len(w.air))
	}
	f := w.air[at]
	if !w.chance(1, 6) {
		w.air = append(w.air[:at:at], w.air[at+1:]...)
	}
	switch w.source.IntN(16) {
	case 0:
		f.bytes = changed(f.bytes, w.source.IntN(len(f.bytes)))
	case 1:
		f.bytes = f.bytes[:w.source.IntN(len(f.bytes))]
	case 2:
		f.bytes += strings.Repeat("\x00", 1+w.source.IntN(80))
	}
	return f
}

func (w *world) deliver() {
	w.t.Helper()
	if len(w.air) == 0 {
		return
	}
	f := w.take()
	if w.chance(1, 20) { // it is lost
		return
	}
	host := w.host(f.to)
	if w.chance(1, 30) {
		host = w.source.IntN(3)
	}
	from := place(f.from)
	if w.chance(1, 10) {
		from = place(f.from + 10)
	}
	w.receive(host, from, f.bytes)
}

func (w *world) receive(host int, from api.Endpoint, b string) {
	w.t.Helper()
	e, now := w.hosts[host], w.time()
	before := flat(e.state(0)) + flat(e.state(1))
	up, out, errno := e.receiveBy(now, w.draw(), from, b)
	after := flat(e.state(0)) + flat(e.state(1))
	switch errno {
	case api.OK, api.ErrSource:
	case api.ErrLoad:
		if before != after || long(out) != "64" || out[0].Bytes[:4] != "\x03\x00\x00\x00" || out[0].To != from {
			w.t.Fatalf("a load: %s, then %s, datagrams %s", before, after, long(out))
		}
	default:
		if before != after || len(out) > 0 {
			w.t.Fatalf("%v: %s, then %s, datagrams %s", errno, before, after, long(out))
		}
	}
	w.fly(host, out)
	for _, in := range up {
		w.handedUp(host, in)
	}
}

func (w *world) handedUp(host int, in api.Inner) {
	w.t.Helper()
	g := given{other(host, in.Peer), byte(host + 1), in.Packet}
	w.came[g]++
	if w.came[g] > w.sent[g] {
		w.t.Fatalf("host %d was handed up %d times what host %d was given to send %d times", g.to, w.came[g], g.from, w.sent[g])
	}
	src, _, _ := parts(in.Packet)
	if w.hosts[host].m.owner(src) != in.Peer {
		w.t.Fatalf("host %d was handed up a packet of peer %d whose source is another's", g.to, in.Peer)
	}
}

func (w *world) tick() {
	w.t.Helper()
	host := w.source.IntN(3)
	w.fly(host, w.hosts[host].tickBy(w.time(), w.draw()))
}

// flood has what is under way come many times.
func (w *world) flood() {
	w.t.Helper()
	if len(w.air) == 0 {
		return
	}
	f := w.air[w.source.IntN(len(w.air))]
	for range 9 {
		w.receive(w.host(f.to), place(f.from), f.bytes)
	}
}

func (w *world) step() {
	w.t.Helper()
	switch n := w.source.IntN(100); {
	case n < 30:
		w.send()
	case n < 88:
		w.deliver()
	case n < 98:
		w.tick()
	default:
		w.flood()
	}
	if len(w.air) > 40 {
		w.air = w.air[20:]
	}
}

func TestDrawnWays(t *testing.T) {
	for seed := range uint64(24) {
		t.Run("", func(t *testing.T) {
			t.Parallel()
			w := newWorld(t, seed, 2)
			for range 500 {
				w.step()
			}
			if len(w.came) == 0 {
				t.Error("nothing was handed up")
			}
		})
	}
}

// Where all that is sent arrives, all that was given to send is handed up, once each.
func TestCalmWays(t *testing.T) {
	for seed := range uint64(6) {
		t.Run("", func(t *testing.T) {
			t.Parallel()
			w := newWorld(t, seed, 3)
			for i := range 150 {
				w.now += w.source.IntN(4000)
				host := w.source.IntN(3)
				to := byte((host+1+w.source.IntN(2))%3 + 1)
				packet := packet4(byte(host+1), to, i)
				out, errno := w.hosts[host].sendBy(w.now, w.draw(), packet)
				if errno != api.OK && errno != api.ErrKey {
					t.Fatalf("Send: %v", errno)
				}
				w.sent[given{byte(host + 1), to, packet}]++
				w.fly(host, out)
				w.allArrives()
				for h := range w.hosts {
					w.fly(h, w.hosts[h].tickBy(w.now, w.draw()))
				}
				w.allArrives()
			}
			for g, n := range w.sent {
				if w.came[g] != n {
					t.Errorf("from %d to %d: given %d times, handed up %d times", g.from, g.to, n, w.came[g])
				}
			}
		})
	}
}

func (w *world) allArrives() {
	w.t.Helper()
	for len(w.air) > 0 {
		f := w.air[0]
		w.air = w.air[1:]
		up, out, errno := w.hosts[w.host(f.to)].receiveBy(w.now, w.draw(), place(f.from), f.bytes)
		if errno != api.OK {
			w.t.Fatalf("at %d, %d bytes from %d to %d: %v", w.now, len(f.bytes), f.from, w.host(f.to)+1, errno)
		}
		w.fly(w.host(f.to), out)
		for _, in := range up {
			w.handedUp(w.host(f.to), in)
		}
	}
}
