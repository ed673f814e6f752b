package tunnel

import (
	"encoding/binary"
	"fmt"
	"slices"
	"strings"
	"testing"

	"adit/aead"
	"adit/api"
	"adit/curve"
	"adit/noise"
)

// What the tests share: ends that go together with their model, packets, and a peer that isn't honest.

var keyA, keyB, keyC = [32]byte{8}, [32]byte{16}, [32]byte{24}

// private is the key of the n-th host, from 1 on, whose address ends with that number.
func private(n byte) [32]byte { return [][32]byte{keyA, keyB, keyC}[n-1] }

func check[V comparable](t *testing.T, what string, got, want V) {
	t.Helper()
	if got != want {
		t.Errorf("%s: %v, want %v", what, got, want)
	}
}

func addr4(b ...byte) (a api.Addr) {
	copy(a.B[:], b)
	return a
}

func addr6(n byte) api.Addr { return api.Addr{V6: true, B: [16]byte{0: 0xfd, 15: n}} }

func prefix4(bits int, b ...byte) api.Prefix { return api.Prefix{Addr: addr4(b...), Bits: bits} }

func place(n byte) api.Endpoint { return api.Endpoint{Addr: addr4(192, 0, 2, n), Port: 99} }

// packet4 goes from 10.0.0.src to 10.0.0.dst, with so many bytes behind its header; packet6 from fd00::src to fd00::dst.
func packet4(src, dst byte, n int) string {
	head := []byte{0x45, 0, byte((20 + n) >> 8), byte(20 + n), 12: 10, 15: src, 16: 10, 19: dst}
	return string(head) + strings.Repeat("x", n)
}

func packet6(src, dst byte, n int) string {
	head := []byte{0x60, 0, 0, 0, byte(n >> 8), byte(n), 8: 0xfd, 23: src, 24: 0xfd, 39: dst}
	return string(head) + strings.Repeat("x", n)
}

// peerOf is the n-th host as a peer.
func peerOf(n byte, known bool) api.PeerConfig {
	p := api.PeerConfig{Public: curve.Public(private(n)), Shared: [32]byte{9}, Allowed: []api.Prefix{prefix4(32, 10, 0, 0, n), {Addr: addr6(n), Bits: 128}}}
	if known {
		p.Known, p.Endpoint = true, place(n)
	}
	return p
}

func configOf(own [32]byte, peers ...api.PeerConfig) api.TunnelConfig {
	return api.TunnelConfig{Private: own, MTU: 1400, Peers: peers}
}

// end is a tunnel and its model, which are told the same.
type end struct {
	t     *testing.T
	x     *Tunnel
	m     *model
	draws uint32
}

func newEnd(t *testing.T, c api.TunnelConfig) *end {
	t.Helper()
	x, errno := New(c)
	if errno != api.OK || x == nil {
		t.Fatalf("New: %v", errno)
	}
	e := &end{t: t, x: x, m: newModel(c)}
	check(t, "Public", x.Public(), curve.Public(c.Private))
	e.same("New")
	return e
}

// ends are the first and the second host, which have one another for their only peer.
func ends(t *testing.T) (a, b *end) {
	t.Helper()
	return newEnd(t, configOf(keyA, peerOf(2, true))), newEnd(t, configOf(keyB, peerOf(1, true)))
}

// draw is another one for each event.
func (e *end) draw() (draw [32]byte) {
	e.draws++
	binary.BigEndian.PutUint32(draw[:], e.draws)
	draw[31] = e.m.c.Private[0]
	return draw
}

func long(l []api.Datagram) string {
	var sizes []string
	for _, d := range l {
		sizes = append(sizes, fmt.Sprint(len(d.Bytes)))
	}
	return strings.Join(sizes, " ")
}

func flat(s api.PeerState) string { return fmt.Sprint(s) }

// same holds all that is told of the tunnel against the model.
func (e *end) same(what string) {
	e.t.Helper()
	for n := -1; n <= len(e.m.peers); n++ {
		got, errno := e.x.Peer(n)
		want, wantErrno := e.m.Peer(n)
		if errno != wantErrno || flat(got) != flat(want) {
			e.t.Fatalf("%s: Peer(%d): %v %v, want %v %v", what, n, got, errno, want, wantErrno)
		}
	}
	if got, want := e.x.Counts(), e.m.counts; got != want {
		e.t.Fatalf("%s: Counts: %v, want %v", what, got, want)
	}
	if got, want := e.x.Next(), e.m.Next(); got != want {
		e.t.Fatalf("%s: Next: %d, want %d", what, got, want)
	}
	if got, want := e.x.Loaded(), e.m.loaded(); got != want {
		e.t.Fatalf("%s: Loaded: %t, want %t", what, got, want)
	}
}

func (e *end) sameDatagrams(what string, got, want []api.Datagram) {
	e.t.Helper()
	if !slices.Equal(got, want) {
		e.t.Fatalf("%s: datagrams %s, want %s (or others of these sizes)", what, long(got), long(want))
	}
	e.same(what)
}

func (e *end) sendBy(now int, draw [32]byte, packet string) ([]api.Datagram, api.Errno) {
	e.t.Helper()
	got, errno := e.x.Send(now, draw, packet)
	want, wantErrno := e.m.Send(now, draw, packet)
	if errno != wantErrno {
		e.t.Fatalf("Send at %d: %v, want %v", now, errno, wantErrno)
	}
	e.sameDatagrams("Send", got, want)
	return got, errno
}

func (e *end) send(now int, packet string) ([]api.Datagram, api.Errno) {
	e.t.Helper()
	return e.sendBy(now, e.draw(), packet)
}

func (e *end) receiveBy(now int, draw [32]byte, from api.Endpoint, b string) ([]api.Inner, []api.Datagram, api.Errno) {
	e.t.Helper()
	up, got, errno := e.x.Receive(now, draw, from, b)
	wantUp, want, wantErrno := e.m.Receive(now, draw, from, b)
	if errno != wantErrno {
		e.t.Fatalf("Receive of %d bytes at %d: %v, want %v", len(b), now, errno, wantErrno)
	}
	if !slices.Equal(up, wantUp) {
		e.t.Fatalf("Receive of %d bytes at %d: %d handed up, want %d (or others)", len(b), now, len(up), len(wantUp))
	}
	e.sameDatagrams("Receive", got, want)
	return up, got, errno
}

func (e *end) receive(now int, from api.Endpoint, b string) ([]api.Inner, []api.Datagram, api.Errno) {
	e.t.Helper()
	return e.receiveBy(now, e.draw(), from, b)
}

// refuses asks that an input ends by an error, that nothing is told, and that a peer stands as before.
func (e *end) refuses(what string, now int, b string, want api.Errno) {
	e.t.Helper()
	before, bad := e.state(0), e.x.Counts().Bad[want]
	up, out, errno := e.receive(now, place(77), b)
	check(e.t, what, errno, want)
	check(e.t, what+": handed up", len(up), 0)
	check(e.t, what+": sent", len(out), 0)
	check(e.t, what+": peer", flat(e.state(0)), flat(before))
	check(e.t, what+": counted", e.x.Counts().Bad[want], bad+1)
}

func (e *end) tickBy(now int, draw [32]byte) []api.Datagram {
	e.t.Helper()
	got := e.x.Tick(now, draw)
	e.sameDatagrams("Tick", got, e.m.Tick(now, draw))
	return got
}

func (e *end) tick(now int) []api.Datagram {
	e.t.Helper()
	return e.tickBy(now, e.draw())
}

func (e *end) state(n int) api.PeerState {
	e.t.Helper()
	s, errno := e.x.Peer(n)
	check(e.t, "Peer", errno, api.OK)
	return s
}

// one is the only datagram of several.
func one(t *testing.T, l []api.Datagram) string {
	t.Helper()
	if len(l) != 1 {
		t.Fatalf("%d datagrams, want 1", len(l))
	}
	return l[0].Bytes
}

// shaken has a begin a handshake with b, behind which both have a current keypair.
func shaken(t *testing.T, a, b *end, now int) {
	t.Helper()
	out, errno := a.send(now, packet4(1, 2, 0))
	check(t, "Send", errno, api.ErrKey)
	_, out, errno = b.receive(now, place(1), one(t, out))
	check(t, "initiation", errno, api.OK)
	_, out, errno = a.receive(now, place(2), one(t, out))
	check(t, "response", errno, api.OK)
	up, _, errno := b.receive(now, place(1), one(t, out))
	check(t, "transport", errno, api.OK)
	check(t, "handed up", len(up), 1)
}

// forger has a private key that is a peer's, and seals what it likes.
type forger struct {
	t       *testing.T
	own     [32]byte
	to      *end
	at      api.Endpoint
	pair    api.Pair
	counter uint64
}

// initiation is one of the forger's, with its hand.
func (f *forger) initiation(stamp [12]byte, index uint32, cookie string) (string, api.Hand) {
	f.t.Helper()
	message, hand, errno := noise.Begin(f.own, f.to.x.Public(), [32]byte{77, byte(index)}, stamp, index)
	check(f.t, "Begin", errno, api.OK)
	marked, errno := noise.Mark(message, f.to.x.Public(), cookie)
	check(f.t, "Mark", errno, api.OK)
	return marked, hand
}

// shake brings the forger to a keypair.
func (f *forger) shake(now int, index uint32) {
	f.t.Helper()
	message, hand := f.initiation(noise.Stamp(now), index, "")
	_, out, errno := f.to.receive(now, f.at, message)
	check(f.t, "the forger's initiation", errno, api.OK)
	f.pair, errno = noise.Finish(f.own, hand, [32]byte{9}, one(f.t, out))
	check(f.t, "Finish", errno, api.OK)
	f.counter = 0
}

// sealed is a transport message of any text.
func (f *forger) sealed(text string) string {
	b := binary.LittleEndian.AppendUint32([]byte{4, 0, 0, 0}, f.pair.Far)
	b = binary.LittleEndian.AppendUint64(b, f.counter)
	box := aead.Seal(f.pair.Send, aead.Nonce(f.counter), text, "")
	f.counter++
	return string(b) + box
}

// open is the text of a transport message to the forger.
func (f *forger) open(message string) string {
	f.t.Helper()
	check(f.t, "index", binary.LittleEndian.Uint32([]byte(message[4:])), f.pair.Local)
	counter := binary.LittleEndian.Uint64([]byte(message[8:]))
	text, errno := aead.Open(f.pair.Recv, aead.Nonce(counter), message[16:], "")
	check(f.t, "Open", errno, api.OK)
	return text
}

// forged is the second host as a forger with a keypair, and the first one that has it, and the third one, for peers.
func forged(t *testing.T, now int) (*forger, *end) {
	t.Helper()
	a := newEnd(t, configOf(keyA, peerOf(2, false), peerOf(3, false)))
	f := &forger{t: t, own: keyB, to: a, at: place(2)}
	f.shake(now, 5)
	return f, a
}

// remarked is a handshake message with another byte somewhere, and a right first mark.
func remarked(message string, to [32]byte, at int, by byte) string {
	b := []byte(message[:len(message)-32])
	b[at] ^= by
	marked, _ := noise.Mark(string(b), to, "")
	return marked
}

func changed(message string, at int) string {
	b := []byte(message)
	b[at] ^= 1
	return string(b)
}
