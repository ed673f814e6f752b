package tunnel

import (
	"adit/api"
	"adit/blake"
	"adit/noise"
)

const (
	markSize  = 16
	indexSize = 4
	nonceSize = 24
	padTo     = 16  // packets are sealed with zeros behind them, so that their lengths tell less
	forCookie = 255 // the number that a cookie message's nonce is drawn for: no peer's
)

// event is one call's work: what it was told, and what goes out and is handed up behind it.
type event struct {
	tunnel *Tunnel
	draw   [32]byte
	from   api.Endpoint
	bytes  string
	out    []api.Datagram
	up     []api.Inner
}

// begin tells the tunnel the time, which never goes back.
func (t *Tunnel) begin(now int, draw [32]byte) *event {
	t.time = max(t.time, now)
	return &event{tunnel: t, draw: draw}
}

// end tells the datagrams that go out.
func (e *event) end() []api.Datagram {
	e.tunnel.counts.Sent += len(e.out)
	return e.out
}

func (t *Tunnel) count(errno api.Errno) {
	if errno == api.OK {
		t.counts.Good++
		return
	}
	t.counts.Bad[errno]++
}

// find is the peer of which something holds, or nil.
func (t *Tunnel) find(holds func(*peer) bool) *peer {
	for _, p := range t.peers {
		if holds(p) {
			return p
		}
	}
	return nil
}

// drawn are the two keys of a number.
func (e *event) drawn(number byte) (first, second [32]byte) {
	keys, _ := blake.Chain(2, e.draw, "adit"+string([]byte{number}))
	return keys[0], keys[1]
}

// drawnFor are an ephemeral private key and an index that nobody has yet.
func (e *event) drawnFor(p *peer) ([32]byte, uint32) {
	ephemeral, second := e.drawn(byte(p.number))
	index := uint32(numberOf(string(second[:indexSize])))
	for e.tunnel.find(func(other *peer) bool { return other.owns(index) }) != nil {
		index++
	}
	return ephemeral, index
}

// drawnNonce is that of a cookie message.
func (e *event) drawnNonce() [nonceSize]byte {
	_, second := e.drawn(forCookie)
	return [nonceSize]byte(second[indexSize:])
}

func (e *event) sendAt(to api.Endpoint, bytes string) {
	e.out = append(e.out, api.Datagram{To: to, Bytes: bytes})
}

// sendTo is no use while nobody knows where the peer is.
func (e *event) sendTo(p *peer, bytes string) {
	if p.known {
		e.sendAt(p.endpoint, bytes)
	}
}

// sendMarked keeps the first mark: a cookie that answers the message opens by it alone.
func (e *event) sendMarked(p *peer, message string) {
	marked, _ := noise.Mark(message, p.key, p.cookie.fresh(e.tunnel.time))
	p.mark = marked[len(message):][:markSize]
	e.sendTo(p, marked)
}

// initiate sends an initiation, unless the last one may still be answered.
func (e *event) initiate(p *peer) {
	t := e.tunnel
	if !p.known || p.trying() && t.time-p.try.last < api.RekeyTry {
		return
	}
	ephemeral, index := e.drawnFor(p)
	stamp := min(max(t.time, t.stamp), api.MaxTime)
	message, hand, errno := noise.Begin(t.private, p.key, ephemeral, noise.Stamp(stamp), index)
	if errno != api.OK {
		return
	}
	t.stamp = stamp + 1
	e.sendMarked(p, message)
	p.tried(hand, t.time)
}

// initiateFirst leaves a hand that is under way alone.
func (e *event) initiateFirst(p *peer) {
	if !p.trying() {
		e.initiate(p)
	}
}

// sendSealed seals a packet and sends it, or tells why it can't be sealed.
func (e *event) sendSealed(p *peer, packet string) api.Errno {
	padded := packet + string(make([]byte, -len(packet)&(padTo-1)))
	index, counter, box, errno := p.session.Seal(e.tunnel.time, padded)
	if errno == api.OK {
		e.sendTo(p, lowestFirst(api.Transport, 4)+lowestFirst(uint64(index), indexSize)+lowestFirst(counter, 8)+box)
	}
	return errno
}

// sendStaged sends what is staged, as long as it can be sealed.
func (e *event) sendStaged(p *peer) {
	for len(p.staged) > 0 && e.sendSealed(p, p.staged[0]) == api.OK {
		p.unstage()
	}
}

// tick does what is due of a peer.
func (e *event) tick(p *peer) {
	now := e.tunnel.time
	p.session.Expire(now)
	switch {
	case !p.trying():
	case now-p.try.first >= api.GiveUp:
		p.giveUp()
	default:
		e.initiate(p)
	}
}

// need gives the event up by an error, unless something holds.
func need(holds bool, errno api.Errno) {
	if !holds {
		panic(errno)
	}
}

// attempt tells the error by which steps were given up.
func attempt(steps func()) (errno api.Errno) {
	defer func() {
		if reason := recover(); reason != nil {
			errno = reason.(api.Errno)
		}
	}()
	steps()
	return api.OK
}
