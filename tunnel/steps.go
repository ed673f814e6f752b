package tunnel

import (
	"adit/api"
	"adit/noise"
)

// The sizes of messages, the marks with them; that of a transport is the least.
const (
	kindSize       = 4
	initiationSize = 148
	responseSize   = 92
	cookieSize     = 64
	transportSize  = 32
	transportHead  = 16
)

// The steps of Send and Receive: they give up by panic.

func (e *event) send(packet string) {
	t := e.tunnel
	in, ok := innerOf(packet)
	need(ok && in.length == len(packet) && in.length <= t.mtu, api.ErrSize)
	number, _, found := t.routes.Find(in.destination)
	need(found, api.ErrRoute)
	p := t.peers[number]
	p.stage(packet)
	e.sendStaged(p)
	left := len(p.staged) > 0
	if left || p.session.Wants(t.time, true) {
		e.initiateFirst(p)
	}
	need(!left, api.ErrKey)
}

// kinds are what becomes of each kind of message, from Initiation on.
func kinds() [4]func(*event) {
	return [4]func(*event){(*event).initiation, (*event).response, (*event).cookie, (*event).transport}
}

func (e *event) receive() {
	need(len(e.bytes) >= kindSize, api.ErrSize)
	kind := e.number(0, kindSize)
	need(kind >= api.Initiation && kind <= api.Transport, api.ErrType)
	kinds()[kind-api.Initiation](e)
}

// number is the one of what came that stands there.
func (e *event) number(place, size int) uint64 { return numberOf(e.bytes[place : place+size]) }

func (e *event) index(place int) uint32 { return uint32(e.number(place, indexSize)) }

// owner is the peer of which something holds, or the event is given up.
func (e *event) owner(holds func(*peer) bool, errno api.Errno) *peer {
	p := e.tunnel.find(holds)
	need(p != nil, errno)
	return p
}

// marked gives up what is not marked for this end, and, while there is a load, what need not have come from where it says it did.
func (e *event) marked(size int) {
	t := e.tunnel
	need(len(e.bytes) == size, api.ErrSize)
	need(noise.Marked(e.bytes, t.public), api.ErrMac)
	t.load.came(t.time)
	if !t.load.heavy(t.time) {
		return
	}
	wanted := noise.Cookie(t.secret(), e.from)
	if !noise.Cookied(e.bytes, wanted) {
		boxed, _ := noise.Box(t.public, e.drawnNonce(), e.bytes, wanted)
		e.sendAt(e.from, boxed)
		panic(api.ErrLoad)
	}
}

func (e *event) initiation() {
	t := e.tunnel
	e.marked(initiationSize)
	hand, stamp, errno := noise.Accept(t.private, e.bytes)
	need(errno == api.OK, errno)
	p := e.owner(func(p *peer) bool { return p.key == hand.Peer }, api.ErrPeer)
	errno = p.accepted.against(stamp, t.time)
	need(errno == api.OK, errno)
	ephemeral, index := e.drawnFor(p)
	message, pair, errno := noise.Answer(hand, p.shared, ephemeral, index)
	need(errno == api.OK, errno)
	p.accepted = accepted{any: true, stamp: stamp, when: t.time}
	p.knownAt(e.from)
	p.session.Put(t.time, pair, false)
	e.sendMarked(p, message)
}

func (e *event) response() {
	t := e.tunnel
	e.marked(responseSize)
	index := e.index(8)
	p := e.owner(func(p *peer) bool { return p.ownsHand(index) }, api.ErrIndex)
	pair, errno := noise.Finish(t.private, p.try.hand, p.shared, e.bytes)
	need(errno == api.OK, errno)
	p.try = try{}
	p.knownAt(e.from)
	p.session.Put(t.time, pair, true)
	if len(p.staged) == 0 {
		e.sendSealed(p, "") // the other end seals by the keypair only once something came by it
	}
	e.sendStaged(p)
}

func (e *event) cookie() {
	need(len(e.bytes) == cookieSize, api.ErrSize)
	index := e.index(4)
	p := e.owner(func(p *peer) bool { return p.owns(index) }, api.ErrIndex)
	text, errno := noise.Unbox(p.key, p.mark, e.bytes)
	need(errno == api.OK, errno)
	p.cookie = cookie{text: text, since: e.tunnel.time}
}

func (e *event) transport() {
	t := e.tunnel
	need(len(e.bytes) >= transportSize, api.ErrSize)
	index, counter := e.index(4), e.number(8, 8)
	p := e.owner(func(p *peer) bool { return p.ownsKeypair(index) }, api.ErrIndex)
	text, epoch, errno := p.session.Open(t.time, index, counter, e.bytes[transportHead:])
	need(errno == api.OK, errno)
	p.knownAt(e.from)
	if p.session.Wants(t.time, false) {
		e.initiateFirst(p)
	}
	e.sendStaged(p)
	if text != "" {
		packet := e.innerFrom(p, text)
		e.up = append(e.up, api.Inner{Peer: p.number, Epoch: epoch, Counter: counter, Packet: packet})
	}
}

// innerFrom is the packet of a text, without its zeros, if it may come from a peer.
func (e *event) innerFrom(p *peer, text string) string {
	in, ok := innerOf(text)
	need(ok && in.length <= len(text), api.ErrSize)
	number, _, found := e.tunnel.routes.Find(in.source)
	need(found && number == p.number, api.ErrSource)
	return text[:in.length]
}
