package session

import (
	"fmt"
	"math/rand/v2"
	"slices"
	"testing"

	"adit/aead"
	"adit/api"
)

// The tests hold the package against a plain model, which goes by the chapter's words alone: keypairs behind three names, each with a set of the counters that came.

type keypair struct {
	pair  api.Pair
	epoch int
	first bool
	born  int
	sent  uint64
	came  map[uint64]bool
}

type model struct {
	previous, current, next *keypair
	time, put               int
}

func (m *model) all() []*keypair { return []*keypair{m.previous, m.current, m.next} }

func (m *model) tell(now int) {
	if now > m.time {
		m.time = now
	}
}

func (m *model) isOld(k *keypair) bool { return m.time-k.born >= 180000 }

func (m *model) byLocal(local uint32) *keypair {
	for _, k := range m.all() {
		if k != nil && k.pair.Local == local {
			return k
		}
	}
	return nil
}

func (m *model) Put(now int, p api.Pair, first bool) (int, api.Errno) {
	m.tell(now)
	if m.byLocal(p.Local) != nil {
		return 0, api.ErrTwice
	}
	m.put++
	k := &keypair{pair: p, epoch: m.put, first: first, born: m.time, came: map[uint64]bool{}}
	switch {
	case !first:
		m.next = k
	case m.next != nil:
		m.previous, m.current, m.next = m.next, k, nil
	case m.current != nil:
		m.previous, m.current = m.current, k
	default:
		m.current = k
	}
	return m.put, api.OK
}

func (m *model) Seal(now int, text string) (uint32, uint64, string, api.Errno) {
	m.tell(now)
	k := m.current
	if k == nil || m.isOld(k) {
		return 0, 0, "", api.ErrKey
	}
	if k.sent == 1<<64-1<<13-1 {
		return 0, 0, "", api.ErrSpent
	}
	k.sent++
	return k.pair.Far, k.sent - 1, aead.Seal(k.pair.Send, aead.Nonce(k.sent-1), text, ""), api.OK
}

func (k *keypair) top() (top uint64) {
	for c := range k.came {
		top = max(top, c+1)
	}
	return top
}

func (k *keypair) fresh(counter uint64) bool {
	top := k.top()
	return !k.came[counter] && (counter >= top || top-1-counter < 8192)
}

func (m *model) Open(now int, index uint32, counter uint64, box string) (string, int, api.Errno) {
	m.tell(now)
	k := m.byLocal(index)
	if k == nil {
		return "", 0, api.ErrIndex
	}
	if m.isOld(k) {
		return "", 0, api.ErrKey
	}
	if counter >= 1<<64-1<<13-1 || !k.fresh(counter) {
		return "", 0, api.ErrReplay
	}
	text, errno := aead.Open(k.pair.Recv, aead.Nonce(counter), box, "")
	if errno != api.OK {
		return "", 0, api.ErrOpen
	}
	k.came[counter] = true
	if k == m.next {
		if m.current != nil {
			m.previous = m.current
		}
		m.current, m.next = k, nil
	}
	if k == m.current && k.top() >= 8192 {
		m.previous = nil
	}
	return text, k.epoch, api.OK
}

func (m *model) Wants(now int, sent bool) bool {
	m.tell(now)
	k := m.current
	if k == nil {
		return sent
	}
	age := m.time - k.born
	return k.first && (sent && age >= 120000 || sent && k.sent >= 1<<60 || !sent && age >= 165000)
}

// letGo empties the slots that go, one by one.
func (m *model) letGo(goes func(*keypair) bool) (locals []uint32) {
	for _, k := range []**keypair{&m.previous, &m.current, &m.next} {
		if *k != nil && goes(*k) {
			locals = append(locals, (*k).pair.Local)
			*k = nil
		}
	}
	return locals
}

func (m *model) Expire(now int) []uint32 {
	m.tell(now)
	return m.letGo(m.isOld)
}

func (m *model) Close() []uint32 { return m.letGo(func(*keypair) bool { return true }) }

func (m *model) Due() int {
	var times []int
	for _, k := range m.all() {
		if k != nil {
			times = append(times, k.born+180000)
		}
	}
	if len(times) == 0 {
		return -1
	}
	return slices.Min(times)
}

func (m *model) Slots() (slots []api.Slot) {
	for which, k := range m.all() {
		if k != nil {
			slots = append(slots, api.Slot{Which: which, Epoch: k.epoch, Local: k.pair.Local, Far: k.pair.Far, First: k.first, Born: k.born, Sent: k.sent, Top: k.top()})
		}
	}
	return slots
}

// walk is a way that a session and the model go together.
type walk struct {
	t      *testing.T
	source *rand.Rand
	s      *Session
	m      *model
	now    int
	steps  int
}

// draw moves the time: mostly a little, at times to the edges of what is old, or back.
func (w *walk) draw() int {
	switch w.source.IntN(40) {
	case 0:
		w.now += 60000
	case 1:
		w.now += []int{119999, 164999, 179999}[w.source.IntN(3)]
	case 2:
		return w.now - w.source.IntN(200000)
	case 3, 4, 5, 6:
		w.now += w.source.IntN(5000)
	}
	return w.now
}

func (w *walk) local() uint32 { return uint32(w.source.IntN(5)) }

func (w *walk) put() (string, string) {
	now, first := w.draw(), w.source.IntN(2) == 0
	p := pairOf(byte(w.source.Uint32()), w.local())
	a, e := w.s.Put(now, p, first)
	b, f := w.m.Put(now, p, first)
	return fmt.Sprint("Put ", now, p.Local, first, ": ", a, e), fmt.Sprint("Put ", now, p.Local, first, ": ", b, f)
}

func (w *walk) seal() (string, string) {
	now, text := w.draw(), "text"[:w.source.IntN(5)]
	far, n, box, e := w.s.Seal(now, text)
	far1, n1, box1, f := w.m.Seal(now, text)
	return fmt.Sprintf("Seal %d: %d %d %x %d", now, far, n, box, e), fmt.Sprintf("Seal %d: %d %d %x %d", now, far1, n1, box1, f)
}

// counter is one that may come: near those that came, or at the edges.
func (w *walk) counter(k *keypair) uint64 {
	switch w.source.IntN(12) {
	case 0:
		return 8190 + uint64(w.source.IntN(4))
	case 1:
		return k.top() + 8190 + uint64(w.source.IntN(4))
	case 2:
		return k.top() - 8194 + uint64(w.source.IntN(4))
	case 3:
		return 1<<64 - 1<<13 - 3 + uint64(w.source.IntN(4))
	}
	return k.top() + 2 - uint64(w.source.IntN(6))
}

func (w *walk) open() (string, string) {
	now, index := w.draw(), w.local()
	k := w.m.byLocal(index)
	if k == nil {
		k = &keypair{}
	}
	counter := w.counter(k)
	if counter > 1<<63 && w.source.IntN(20) > 0 { // seldom: nothing comes behind it
		counter = 0
	}
	box := aead.Seal(k.pair.Recv, aead.Nonce(counter), "hello", "")
	if w.source.IntN(8) == 0 {
		box = box[:len(box)-w.source.IntN(20)-1]
	}
	a, n, e := w.s.Open(now, index, counter, box)
	b, n1, f := w.m.Open(now, index, counter, box)
	return fmt.Sprint("Open ", now, index, counter, ": ", a, n, e), fmt.Sprint("Open ", now, index, counter, ": ", b, n1, f)
}

func (w *walk) ask() (string, string) {
	now, sent := w.draw(), w.source.IntN(2) == 0
	return fmt.Sprint("Wants ", now, sent, w.s.Wants(now, sent)), fmt.Sprint("Wants ", now, sent, w.m.Wants(now, sent))
}

func (w *walk) expire() (string, string) {
	now := w.draw()
	return fmt.Sprint("Expire ", now, w.s.Expire(now)), fmt.Sprint("Expire ", now, w.m.Expire(now))
}

func (w *walk) close() (string, string) {
	return fmt.Sprint("Close ", w.s.Close()), fmt.Sprint("Close ", w.m.Close())
}

// leap lets the current keypair have sealed many texts, which no test has the time for.
func (w *walk) leap() (string, string) {
	if k := w.m.current; k != nil {
		k.sent = []uint64{1<<60 - 1, 1 << 60, 1<<64 - 1<<13 - 2}[w.source.IntN(3)]
		w.s.slots[api.Current].sent = k.sent
	}
	return "", ""
}

func (w *walk) step() {
	w.t.Helper()
	var got, want string
	switch n := w.source.IntN(100); {
	case n < 25:
		got, want = w.put()
	case n < 45:
		got, want = w.seal()
	case n < 80:
		got, want = w.open()
	case n < 90:
		got, want = w.ask()
	case n < 97:
		got, want = w.expire()
	case n < 98:
		got, want = w.close()
	default:
		got, want = w.leap()
	}
	got += fmt.Sprint(" then ", w.s.Slots(), w.s.Due())
	want += fmt.Sprint(" then ", w.m.Slots(), w.m.Due())
	if w.steps++; got != want {
		w.t.Fatalf("step %d: %s\nwant %s", w.steps, got, want)
	}
}

func TestDrawnWays(t *testing.T) {
	for seed := range uint64(200) {
		w := &walk{t: t, source: rand.New(rand.NewPCG(seed, 9)), s: New(), m: &model{}}
		for range 200 {
			w.step()
		}
	}
}
