package tunnel

import (
	"encoding/binary"
	"slices"
	"strings"

	"adit/api"
	"adit/blake"
	"adit/curve"
	"adit/noise"
	"adit/session"
)

// The tests hold the package against a plain model, which goes by the chapter's words alone: it keeps the configuration and goes over all its prefixes, keeps when each handshake message came that was Marked, and has an error told by a return.

type modelPeer struct {
	session     *session.Session
	known       bool
	endpoint    api.Endpoint
	hand        *api.Hand
	tries       int
	first, last int
	staged      []string
	greatest    *[12]byte
	acceptedAt  int
	mark        string
	cookie      string
	cookieAt    int
}

type model struct {
	c       api.TunnelConfig
	time    int
	peers   []*modelPeer
	marked  []int
	stamped *int // the time of the last stamp
	counts  api.Counts
	draw    [32]byte
	told    []api.Datagram
	up      []api.Inner
}

func newModel(c api.TunnelConfig) *model {
	m := &model{c: c}
	for _, p := range c.Peers {
		q := &modelPeer{session: session.New()}
		if p.Known {
			q.known, q.endpoint = true, p.Endpoint
		}
		m.peers = append(m.peers, q)
	}
	return m
}

func (m *model) event(now int, draw [32]byte) {
	if now > m.time {
		m.time = now
	}
	m.draw, m.told, m.up = draw, nil, nil
}

func (m *model) send(to api.Endpoint, b string) {
	m.told = append(m.told, api.Datagram{To: to, Bytes: b})
	m.counts.Sent++
}

// byHand and byKeypair are whose an index is, -1: nobody's.
func (m *model) byHand(index uint32) int {
	return slices.IndexFunc(m.peers, func(p *modelPeer) bool { return p.hand != nil && p.hand.Local == index })
}

func (m *model) byKeypair(index uint32) int {
	return slices.IndexFunc(m.peers, func(p *modelPeer) bool {
		return slices.ContainsFunc(p.session.Slots(), func(s api.Slot) bool { return s.Local == index })
	})
}

func (m *model) drawn(n int) (ephemeral [32]byte, index uint32, nonce [24]byte) {
	keys, _ := blake.Chain(2, m.draw, "adit"+string([]byte{byte(n)}))
	index = binary.LittleEndian.Uint32(keys[1][:])
	for m.byHand(index) >= 0 || m.byKeypair(index) >= 0 {
		index++
	}
	copy(nonce[:], keys[1][4:28])
	return keys[0], index, nonce
}

func (m *model) mark(n int, message string) string {
	p := m.peers[n]
	cookie := ""
	if p.cookie != "" && m.time-p.cookieAt < 120000 {
		cookie = p.cookie
	}
	marked, _ := noise.Mark(message, m.c.Peers[n].Public, cookie)
	p.mark = marked[len(message) : len(message)+16]
	return marked
}

func (m *model) initiate(n int) {
	p := m.peers[n]
	if !p.known || p.hand != nil && m.time < p.last+5000 {
		return
	}
	ephemeral, index, _ := m.drawn(n)
	at := m.time
	if m.stamped != nil && at < *m.stamped+1 {
		at = *m.stamped + 1
	}
	message, hand, errno := noise.Begin(m.c.Private, m.c.Peers[n].Public, ephemeral, noise.Stamp(at), index)
	if errno != api.OK {
		return
	}
	m.stamped = &at
	m.send(p.endpoint, m.mark(n, message))
	if p.hand == nil {
		p.first, p.tries = m.time, 0
	}
	p.hand, p.last = &hand, m.time
	p.tries++
}

func (m *model) seal(n int, packet string) bool {
	p := m.peers[n]
	for len(packet)%16 != 0 {
		packet += "\x00"
	}
	index, counter, box, errno := p.session.Seal(m.time, packet)
	if errno != api.OK {
		return false
	}
	b := binary.LittleEndian.AppendUint32([]byte{4, 0, 0, 0}, index)
	b = binary.LittleEndian.AppendUint64(b, counter)
	if p.known {
		m.send(p.endpoint, string(b)+box)
	}
	return true
}

func (m *model) stagedGo(n int) {
	for p := m.peers[n]; len(p.staged) > 0; p.staged = p.staged[1:] {
		if !m.seal(n, p.staged[0]) {
			return
		}
	}
}

// loaded goes over all that came.
func (m *model) loaded() bool {
	n := 0
	for _, at := range m.marked {
		if at > m.time-1000 {
			n++
		}
	}
	return n >= 8
}

// parts are the source, the destination and the length of a packet, -1: none.
func parts(packet string) (src, dst api.Addr, length int) {
	switch {
	case len(packet) >= 20 && packet[0] >= 0x40 && packet[0] <= 0x4f:
		copy(src.B[:4], packet[12:16])
		copy(dst.B[:4], packet[16:20])
		if length = int(packet[2])*256 + int(packet[3]); length >= 20 {
			return src, dst, length
		}
	case len(packet) >= 40 && packet[0] >= 0x60 && packet[0] <= 0x6f:
		src.V6, dst.V6 = true, true
		copy(src.B[:], packet[8:24])
		copy(dst.B[:], packet[24:40])
		return src, dst, 40 + int(packet[4])*256 + int(packet[5])
	}
	return src, dst, -1
}

func bitsOf(a api.Addr) string {
	text := []byte{'4'}
	if a.V6 {
		text[0] = '6'
	}
	for _, b := range a.B {
		for at := range 8 {
			text = append(text, '0'+b<<at>>7)
		}
	}
	return string(text)
}

// owner goes over all prefixes of the configuration, -1: nobody.
func (m *model) owner(a api.Addr) int {
	owner, most := -1, -1
	for n, p := range m.c.Peers {
		for _, allowed := range p.Allowed {
			if strings.HasPrefix(bitsOf(a), bitsOf(allowed.Addr)[:1+allowed.Bits]) && allowed.Bits > most {
				owner, most = n, allowed.Bits
			}
		}
	}
	return owner
}

func (m *model) Send(now int, draw [32]byte, packet string) ([]api.Datagram, api.Errno) {
	m.event(now, draw)
	_, dst, length := parts(packet)
	if length < 0 || length != len(packet) || length > m.c.MTU {
		return nil, api.ErrSize
	}
	n := m.owner(dst)
	if n < 0 {
		return nil, api.ErrRoute
	}
	p := m.peers[n]
	p.staged = append(p.staged, packet)
	if len(p.staged) > 8 {
		p.staged = p.staged[1:]
	}
	m.stagedGo(n)
	if len(p.staged) > 0 {
		if p.hand == nil {
			m.initiate(n)
		}
		return m.told, api.ErrKey
	}
	if p.session.Wants(m.time, true) && p.hand == nil {
		m.initiate(n)
	}
	return m.told, api.OK
}

func (m *model) Receive(now int, draw [32]byte, from api.Endpoint, b string) ([]api.Inner, []api.Datagram, api.Errno) {
	m.event(now, draw)
	errno := m.receive(from, b)
	if errno == api.OK {
		m.counts.Good++
	} else {
		m.counts.Bad[errno]++
	}
	return m.up, m.told, errno
}

func (m *model) receive(from api.Endpoint, b string) api.Errno {
	switch {
	case len(b) < 4:
		return api.ErrSize
	case b[1:4] != "\x00\x00\x00":
		return api.ErrType
	case b[0] == 1:
		return m.initiation(from, b)
	case b[0] == 2:
		return m.response(from, b)
	case b[0] == 3:
		return m.cookie(b)
	case b[0] == 4:
		return m.transport(from, b)
	}
	return api.ErrType
}

// handshake is what both kinds of handshake messages go through.
func (m *model) handshake(from api.Endpoint, b string, size int) api.Errno {
	own := curve.Public(m.c.Private)
	if len(b) != size {
		return api.ErrSize
	}
	if !noise.Marked(b, own) {
		return api.ErrMac
	}
	m.marked = append(m.marked, m.time)
	if !m.loaded() {
		return api.OK
	}
	number := binary.LittleEndian.AppendUint64(nil, uint64(m.time/120000))
	cookie := noise.Cookie(blake.Sum("secret", string(m.c.Private[:]), string(number)), from)
	if noise.Cookied(b, cookie) {
		return api.OK
	}
	_, _, nonce := m.drawn(255)
	boxed, _ := noise.Box(own, nonce, b, cookie)
	m.send(from, boxed)
	return api.ErrLoad
}

func (m *model) initiation(from api.Endpoint, b string) api.Errno {
	if errno := m.handshake(from, b, 148); errno != api.OK {
		return errno
	}
	hand, stamp, errno := noise.Accept(m.c.Private, b)
	if errno != api.OK {
		return errno
	}
	n := slices.IndexFunc(m.c.Peers, func(p api.PeerConfig) bool { return p.Public == hand.Peer })
	if n < 0 {
		return api.ErrPeer
	}
	p := m.peers[n]
	if p.greatest != nil && !noise.Later(stamp, *p.greatest) {
		return api.ErrStale
	}
	if p.greatest != nil && m.time-p.acceptedAt < 50 {
		return api.ErrFlood
	}
	ephemeral, index, _ := m.drawn(n)
	message, pair, errno := noise.Answer(hand, m.c.Peers[n].Shared, ephemeral, index)
	if errno != api.OK {
		return errno
	}
	p.greatest, p.acceptedAt = &stamp, m.time
	p.known, p.endpoint = true, from
	p.session.Put(m.time, pair, false)
	m.send(from, m.mark(n, message))
	return api.OK
}

func (m *model) response(from api.Endpoint, b string) api.Errno {
	if errno := m.handshake(from, b, 92); errno != api.OK {
		return errno
	}
	n := m.byHand(binary.LittleEndian.Uint32([]byte(b[8:12])))
	if n < 0 {
		return api.ErrIndex
	}
	p := m.peers[n]
	pair, errno := noise.Finish(m.c.Private, *p.hand, m.c.Peers[n].Shared, b)
	if errno != api.OK {
		return errno
	}
	p.hand = nil
	p.known, p.endpoint = true, from
	p.session.Put(m.time, pair, true)
	if len(p.staged) > 0 {
		m.stagedGo(n)
	} else {
		m.seal(n, "")
	}
	return api.OK
}

func (m *model) cookie(b string) api.Errno {
	if len(b) != 64 {
		return api.ErrSize
	}
	index := binary.LittleEndian.Uint32([]byte(b[4:8]))
	n := max(m.byHand(index), m.byKeypair(index))
	if n < 0 {
		return api.ErrIndex
	}
	cookie, errno := noise.Unbox(m.c.Peers[n].Public, m.peers[n].mark, b)
	if errno == api.OK {
		m.peers[n].cookie, m.peers[n].cookieAt = cookie, m.time
	}
	return errno
}

func (m *model) transport(from api.Endpoint, b string) api.Errno {
	if len(b) < 32 {
		return api.ErrSize
	}
	index := binary.LittleEndian.Uint32([]byte(b[4:8]))
	n := m.byKeypair(index)
	if n < 0 {
		return api.ErrIndex
	}
	p, counter := m.peers[n], binary.LittleEndian.Uint64([]byte(b[8:16]))
	text, epoch, errno := p.session.Open(m.time, index, counter, b[16:])
	if errno != api.OK {
		return errno
	}
	p.known, p.endpoint = true, from
	if p.session.Wants(m.time, false) && p.hand == nil {
		m.initiate(n)
	}
	m.stagedGo(n)
	if text == "" {
		return api.OK
	}
	src, _, length := parts(text)
	if length < 0 || length > len(text) {
		return api.ErrSize
	}
	if m.owner(src) != n {
		return api.ErrSource
	}
	m.up = append(m.up, api.Inner{Peer: n, Epoch: epoch, Counter: counter, Packet: text[:length]})
	return api.OK
}

func (m *model) Tick(now int, draw [32]byte) []api.Datagram {
	m.event(now, draw)
	for n, p := range m.peers {
		p.session.Expire(m.time)
		if p.hand == nil {
			continue
		}
		if m.time >= p.first+90000 {
			p.hand, p.staged = nil, nil
		} else if m.time >= p.last+5000 {
			m.initiate(n)
		}
	}
	return m.told
}

func (m *model) Next() int {
	var times []int
	for _, p := range m.peers {
		if p.hand != nil {
			times = append(times, p.last+5000, p.first+90000)
		}
		for _, s := range p.session.Slots() {
			times = append(times, s.Born+180000)
		}
	}
	if len(times) == 0 {
		return -1
	}
	return slices.Min(times)
}

func (m *model) Peer(n int) (api.PeerState, api.Errno) {
	if n < 0 || n >= len(m.peers) {
		return api.PeerState{}, api.ErrArg
	}
	p := m.peers[n]
	s := api.PeerState{Known: p.known, Endpoint: p.endpoint, Slots: p.session.Slots(), Staged: len(p.staged)}
	if p.hand != nil {
		s.Trying, s.Tries = true, p.tries
	}
	return s, api.OK
}
