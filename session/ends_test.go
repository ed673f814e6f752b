package session

import (
	"fmt"
	"math/rand/v2"
	"testing"

	"adit/api"
)

// P9.6: two sessions with keypairs that mirror one another, and what is between them.

// mirrored are the two ends' sides of the n-th keypair.
func mirrored(n int) [2]api.Pair {
	one, other := [32]byte{byte(n), byte(n >> 8), 1}, [32]byte{byte(n), byte(n >> 8), 2}
	a, b := uint32(2*n), uint32(2*n+1)
	return [2]api.Pair{
		{Send: one, Recv: other, Local: a, Far: b},
		{Send: other, Recv: one, Local: b, Far: a},
	}
}

type message struct {
	to      int
	index   uint32
	counter uint64
	box     string
	text    string
	number  int // among all that its end sealed
}

// sealedOnce is what a message is known by: the receiver's index stands for the keypair.
type sealedOnce struct {
	index   uint32
	counter uint64
}

// ends are two sessions, and all that went between them.
type ends struct {
	t      *testing.T
	now    int
	s      [2]*Session
	pairs  int
	epochs map[uint32]int // by index: what Put told
	sealed map[sealedOnce]bool
	opened map[sealedOnce]bool
	sent   [2]int
	came   [2][]int // by receiver: numbers of what came, in the order that it did
}

func newEnds(t *testing.T) *ends {
	return &ends{t: t, s: [2]*Session{New(), New()}, epochs: map[uint32]int{}, sealed: map[sealedOnce]bool{}, opened: map[sealedOnce]bool{}}
}

func (e *ends) put(end int, p api.Pair, first bool) {
	e.t.Helper()
	epoch, errno := e.s[end].Put(e.now, p, first)
	if errno != api.OK {
		e.t.Fatalf("Put of %d: %v", p.Local, errno)
	}
	e.epochs[p.Local] = epoch
}

// begin has an end begin a handshake, which the other one answers: what is left to do when the answer comes is told.
func (e *ends) begin(end int) (finish func()) {
	e.t.Helper()
	e.pairs++
	p := mirrored(e.pairs)
	e.put(1-end, p[1-end], false)
	return func() { e.put(end, p[end], true) }
}

func (e *ends) seal(end int) (message, bool) {
	e.t.Helper()
	text := fmt.Sprint("message ", end, e.sent[end])
	index, counter, box, errno := e.s[end].Seal(e.now, text)
	if errno != api.OK {
		return message{}, false
	}
	m := message{to: 1 - end, index: index, counter: counter, box: box, text: text, number: e.sent[end]}
	e.sent[end]++
	once := sealedOnce{index, counter}
	if e.sealed[once] {
		e.t.Fatalf("counter %d of %d sealed twice", counter, index)
	}
	e.sealed[once] = true
	return m, true
}

// later is how many that were sealed behind a message came ahead of it.
func (e *ends) later(m message) (n int) {
	for _, number := range e.came[m.to] {
		if number > m.number {
			n++
		}
	}
	return n
}

// deliver has a message come, and asks all that must hold if it opens.
func (e *ends) deliver(m message) api.Errno {
	e.t.Helper()
	text, epoch, errno := e.s[m.to].Open(e.now, m.index, m.counter, m.box)
	if errno != api.OK {
		return errno
	}
	once := sealedOnce{m.index, m.counter}
	switch {
	case !e.sealed[once]:
		e.t.Fatalf("counter %d of %d was opened, but not sealed", m.counter, m.index)
	case e.opened[once]:
		e.t.Fatalf("counter %d of %d was opened twice", m.counter, m.index)
	case text != m.text:
		e.t.Fatalf("opened: %s, sealed: %s", text, m.text)
	case epoch != e.epochs[m.index]:
		e.t.Fatalf("epoch %d of %d, want %d", epoch, m.index, e.epochs[m.index])
	case e.later(m) >= 2*8192:
		e.t.Fatalf("%d later ones came ahead of %s", e.later(m), m.text)
	}
	e.opened[once] = true
	e.came[m.to] = append(e.came[m.to], m.number)
	return api.OK
}

func (e *ends) mustSeal(end int) message {
	e.t.Helper()
	m, ok := e.seal(end)
	if !ok {
		e.t.Fatalf("end %d does not seal", end)
	}
	return m
}

func (e *ends) checkDeliver(what string, m message, want api.Errno) {
	e.t.Helper()
	check(e.t, what, e.deliver(m), want)
}

// Nothing is lost, doubled or late: all that is sealed opens, through many handshakes of either end.
func TestCalmEnds(t *testing.T) {
	e := newEnds(t)
	source := rand.New(rand.NewPCG(1, 9))
	for range 60 {
		beginner := source.IntN(2)
		finish := e.begin(beginner)
		for range source.IntN(4) { // the other end goes on by what it had
			for end := range 2 {
				if m, ok := e.seal(end); ok {
					e.checkDeliver("while a handshake is under way", m, api.OK)
				}
			}
		}
		finish()
		for range 1 + source.IntN(6) {
			e.now += source.IntN(500)
			e.checkDeliver("of who began", e.mustSeal(beginner), api.OK)
			e.checkDeliver("of who answered", e.mustSeal(1-beginner), api.OK)
		}
	}
}

// Who answered seals by the new keypair only when it came to be used.
func TestAnsweringEndWaits(t *testing.T) {
	e := newEnds(t)
	finish := e.begin(0)
	_, ok := e.seal(1)
	check(t, "sealed ahead of the first message", ok, false)
	finish()
	_, ok = e.seal(1)
	check(t, "sealed ahead of the first message", ok, false)
	e.checkDeliver("the first message", e.mustSeal(0), api.OK)
	e.checkDeliver("the first one back", e.mustSeal(1), api.OK)
}

// Two ends that began at one time open what the other one seals, however many that are.
func TestBeginAtOneTime(t *testing.T) {
	for _, known := range []bool{false, true} {
		e := newEnds(t)
		if known {
			e.begin(0)()
			e.checkDeliver("the first message", e.mustSeal(0), api.OK)
		}
		finishOne, finishOther := e.begin(0), e.begin(1)
		finishOne()
		finishOther()
		for range 9000 {
			e.checkDeliver("of one", e.mustSeal(0), api.OK)
			e.checkDeliver("of the other", e.mustSeal(1), api.OK)
		}
	}
}

// The last one that may be late, and the first that may not: by how many of its own keypair, and by how many of the one behind.
func TestLatest(t *testing.T) {
	for _, c := range []struct {
		own, behind int
		want        api.Errno
	}{
		{8191, 8191, api.OK},
		{8192, 8191, api.ErrReplay},
		{8192, 0, api.ErrReplay},
		{0, 8191, api.OK},
		{8191, 8192, api.ErrIndex},
		{0, 8192, api.ErrIndex},
	} {
		e := newEnds(t)
		e.begin(0)()
		e.checkDeliver("the first message", e.mustSeal(0), api.OK) // else the next handshake would let go of this keypair
		late := e.mustSeal(0)
		for range c.own {
			e.checkDeliver("of its own", e.mustSeal(0), api.OK)
		}
		e.begin(0)()
		for range c.behind {
			e.checkDeliver("of the one behind", e.mustSeal(0), api.OK)
		}
		what := fmt.Sprint("late by ", c.own, " and ", c.behind)
		e.checkDeliver(what, late, c.want)
		if c.want == api.OK {
			check(t, what, e.later(late), c.own+c.behind)
		}
	}
}

// It is the counters that might have come that retire a keypair, not those that came.
func TestRetireThoughMostAreLost(t *testing.T) {
	e := newEnds(t)
	e.begin(0)()
	late := e.mustSeal(0)
	e.checkDeliver("the first keypair", e.mustSeal(0), api.OK)
	e.begin(0)()
	var last message
	for range 8192 {
		last = e.mustSeal(0)
	}
	e.checkDeliver("the last of all that were lost", last, api.OK)
	e.checkDeliver("by the previous keypair", late, api.ErrIndex)
}

// storm is a network that loses, doubles, delays and turns what goes through it.
type storm struct {
	*ends
	source  *rand.Rand
	air     []message
	answers []func()
}

func (w *storm) pick() int { return w.source.IntN(len(w.air)) }

// strange is a message that nobody sealed.
func (w *storm) strange() {
	m := w.air[w.pick()]
	switch w.source.IntN(5) {
	case 0:
		m.counter++
	case 1:
		m.index ^= 2
	case 2:
		m.to = 1 - m.to
	case 3:
		b := []byte(m.box)
		b[w.source.IntN(len(b))] ^= 1 << w.source.IntN(8)
		m.box = string(b)
	case 4:
		m.box = m.box[:w.source.IntN(len(m.box))]
	}
	if text, _, errno := w.s[m.to].Open(w.now, m.index, m.counter, m.box); errno == api.OK {
		w.t.Fatalf("a stranger's message opened: %s", text)
	}
}

func (w *storm) step() {
	w.now += w.source.IntN(20)
	switch n := w.source.IntN(100); {
	case n < 45:
		if m, ok := w.seal(w.source.IntN(2)); ok {
			w.air = append(w.air, m)
		}
	case n < 48:
		w.answers = append(w.answers, w.begin(w.source.IntN(2)))
	case n < 51 && len(w.answers) > 0: // in any order: some are lost, and some are late
		i := w.source.IntN(len(w.answers))
		if w.source.IntN(4) > 0 {
			w.answers[i]()
		}
		w.answers = append(w.answers[:i], w.answers[i+1:]...)
	case n < 56 && len(w.air) > 0:
		w.strange()
	case n < 57:
		w.s[w.source.IntN(2)].Expire(w.now)
	case len(w.air) > 0:
		i := max(w.pick(), w.pick()) // rather what is new
		w.deliver(w.air[i])
		if w.source.IntN(3) > 0 { // else it comes once more
			w.air = append(w.air[:i], w.air[i+1:]...)
		}
	}
}

func TestStorms(t *testing.T) {
	opened := 0
	for seed := range uint64(40) {
		w := &storm{ends: newEnds(t), source: rand.New(rand.NewPCG(seed, 96))}
		w.begin(0)()
		for range 1500 {
			w.step()
		}
		opened += len(w.opened)
	}
	if opened < 2000 {
		t.Errorf("only %d messages opened: too few to tell anything", opened)
	}
}

// Gusts of many thousands, shuffled over so long a way that windows and retirement bear on what opens.
func TestLongStorm(t *testing.T) {
	e := newEnds(t)
	source := rand.New(rand.NewPCG(7, 9))
	var air []message
	tells := map[api.Errno]int{}
	for range 3 {
		e.begin(0)()
		for range 12000 {
			m := e.mustSeal(0)
			if source.IntN(10) == 0 { // held back
				air = append(air, m)
				continue
			}
			tells[e.deliver(m)]++
			if len(air) > 0 && source.IntN(12) == 0 {
				i := source.IntN(len(air))
				tells[e.deliver(air[i])]++
			}
		}
	}
	for _, errno := range []api.Errno{api.OK, api.ErrReplay, api.ErrIndex} {
		if tells[errno] < 50 {
			t.Errorf("%v came %d times: too few to tell anything", errno, tells[errno])
		}
	}
}
