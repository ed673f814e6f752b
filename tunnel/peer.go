package tunnel

import (
	"math"
	"slices"

	"adit/api"
	"adit/noise"
	"adit/session"
)

const never = -1 // no time

// peer is another end, and all that is kept of it.
type peer struct {
	number      int
	key, shared [32]byte
	session     *session.Session
	known       bool
	endpoint    api.Endpoint // where it is known
	try         try
	staged      []string
	accepted    accepted
	mark        string // the first one of what was marked for it last
	cookie      cookie
}

// try is a hand that is under way, if there are any tries.
type try struct {
	hand        api.Hand
	tries       int
	first, last int // when the initiations were sent
}

// accepted is of the initiation of a peer that was accepted last: its stamp is the greatest one.
type accepted struct {
	any   bool
	stamp [12]byte
	when  int
}

// cookie is what a peer wants second marks to be made by; an empty text: none.
type cookie struct {
	text  string
	since int
}

func newPeer(number int, c api.PeerConfig) *peer {
	p := &peer{number: number, key: c.Public, shared: c.Shared, session: session.New()}
	if c.Known {
		p.knownAt(c.Endpoint)
	}
	return p
}

func (p *peer) knownAt(e api.Endpoint) { p.known, p.endpoint = true, e }

func (p *peer) trying() bool { return p.try.tries > 0 }

// tried puts another hand under way: the tries go on from those without an answer.
func (p *peer) tried(hand api.Hand, now int) {
	if !p.trying() {
		p.try.first = now
	}
	p.try.hand, p.try.last = hand, now
	p.try.tries++
}

// giveUp lets go of a hand that nobody answers, and of what waits for it.
func (p *peer) giveUp() { p.try, p.staged = try{}, nil }

// stage keeps a packet for when it can be sealed: of too many the oldest goes.
func (p *peer) stage(packet string) {
	if len(p.staged) == api.MaxStaged {
		p.unstage()
	}
	p.staged = append(p.staged, packet)
}

// unstage lets go of the first staged packet.
func (p *peer) unstage() { p.staged = slices.Delete(p.staged, 0, 1) }

// ownsHand tells whether a hand that is under way has an index for its own.
func (p *peer) ownsHand(index uint32) bool { return p.trying() && p.try.hand.Local == index }

// ownsKeypair tells whether a keypair has it.
func (p *peer) ownsKeypair(index uint32) bool {
	for _, slot := range p.session.Slots() {
		if slot.Local == index {
			return true
		}
	}
	return false
}

func (p *peer) owns(index uint32) bool { return p.ownsHand(index) || p.ownsKeypair(index) }

// against is what an initiation that was accepted has against another one: it may be old, or too many may come.
func (a accepted) against(stamp [12]byte, now int) api.Errno {
	switch {
	case !a.any:
		return api.OK
	case !noise.Later(stamp, a.stamp):
		return api.ErrStale
	case now-a.when < api.Between:
		return api.ErrFlood
	}
	return api.OK
}

// fresh is the cookie while it holds, else no text.
func (c cookie) fresh(now int) string {
	if now-c.since >= api.CookieLife {
		return ""
	}
	return c.text
}

// due is when something of the peer is.
func (p *peer) due() int {
	due := p.session.Due()
	if p.trying() {
		due = sooner(due, behind(p.try.last, api.RekeyTry))
		due = sooner(due, behind(p.try.first, api.GiveUp))
	}
	return due
}

// behind is the time so much behind another: never, if no number is so great.
func behind(time, span int) int {
	if time > math.MaxInt-span {
		return never
	}
	return time + span
}

// sooner is the lesser of two times, either of which may be never.
func sooner(a, b int) int {
	if a == never || b != never && b < a {
		return b
	}
	return a
}

func (p *peer) told() api.PeerState {
	return api.PeerState{
		Known:    p.known,
		Endpoint: p.endpoint,
		Slots:    p.session.Slots(),
		Staged:   len(p.staged),
		Trying:   p.trying(),
		Tries:    p.try.tries,
	}
}
