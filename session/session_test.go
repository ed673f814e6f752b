package session

import (
	"fmt"
	"math"
	"slices"
	"testing"

	"adit/aead"
	"adit/api"
)

func check[V comparable](t *testing.T, what string, got, want V) {
	t.Helper()
	if got != want {
		t.Errorf("%s: %v, want %v", what, got, want)
	}
}

func checkLocals(t *testing.T, what string, got []uint32, want ...uint32) {
	t.Helper()
	if !slices.Equal(got, want) {
		t.Errorf("%s: %v, want %v", what, got, want)
	}
}

func checkSlots(t *testing.T, what string, s *Session, want ...api.Slot) {
	t.Helper()
	if got := s.Slots(); !slices.Equal(got, want) {
		t.Errorf("%s: Slots %+v, want %+v", what, got, want)
	}
}

// pairOf is a keypair with keys of its own.
func pairOf(n byte, local uint32) api.Pair {
	return api.Pair{Send: [32]byte{n, 1}, Recv: [32]byte{n, 2}, Local: local, Far: local + 1000}
}

// boxFor is one that a keypair opens.
func boxFor(p api.Pair, counter uint64, text string) string {
	return aead.Seal(p.Recv, aead.Nonce(counter), text, "")
}

func mustPut(t *testing.T, s *Session, now int, p api.Pair, first bool) {
	t.Helper()
	if _, errno := s.Put(now, p, first); errno != api.OK {
		t.Fatalf("Put of %d: %v", p.Local, errno)
	}
}

func checkOpen(t *testing.T, what string, s *Session, now int, p api.Pair, counter uint64, want api.Errno) {
	t.Helper()
	_, _, errno := s.Open(now, p.Local, counter, boxFor(p, counter, "text"))
	check(t, what+": Open", errno, want)
}

// checkNoSeal asks that all that stands beside an error is zero.
func checkNoSeal(t *testing.T, what string, s *Session, now int, want api.Errno) {
	t.Helper()
	far, counter, box, errno := s.Seal(now, "text")
	check(t, what+": Seal", errno, want)
	check(t, what+": index", far, 0)
	check(t, what+": counter", counter, 0)
	check(t, what+": len of the box", len(box), 0)
}

func checkSeal(t *testing.T, what string, s *Session, now int, want api.Errno) {
	t.Helper()
	_, _, _, errno := s.Seal(now, "text")
	check(t, what+": Seal", errno, want)
}

var (
	p1 = pairOf(1, 11)
	p2 = pairOf(2, 22)
	p3 = pairOf(3, 33)
	p4 = pairOf(4, 44)
)

// full has p1 as previous, p2 as current, p3 as next: each born ten milliseconds behind the last one.
func full(t *testing.T) *Session {
	t.Helper()
	s := New()
	mustPut(t, s, 10, p1, true)
	mustPut(t, s, 20, p2, true)
	mustPut(t, s, 30, p3, false)
	checkSlots(t, "full", s,
		api.Slot{Which: api.Previous, Epoch: 1, Local: 11, Far: 1011, First: true, Born: 10},
		api.Slot{Which: api.Current, Epoch: 2, Local: 22, Far: 1022, First: true, Born: 20},
		api.Slot{Which: api.Next, Epoch: 3, Local: 33, Far: 1033, First: false, Born: 30})
	return s
}

// held are the epochs of previous, current and next, 0 for an empty one.
func held(s *Session) (epochs [3]int) {
	for _, k := range s.Slots() {
		epochs[k.Which] = k.Epoch
	}
	return epochs
}

func TestExamples(t *testing.T) {
	p, q := p1, p2
	s := New()
	one, e := s.Put(0, p, true)
	two, f := s.Put(1, q, false)
	check(t, "Put", fmt.Sprint(one, e == api.OK, two, f == api.OK), "1 true 2 true")
	check(t, "Slots", held(s), [3]int{0, 1, 2})
	for n := range uint64(2) {
		far, counter, box, errno := s.Seal(2, "hi")
		check(t, "Seal", errno, api.OK)
		check(t, "its index", far, p.Far)
		check(t, "its counter", counter, n)
		check(t, "its box", box == aead.Seal(p.Send, aead.Nonce(n), "hi", ""), true)
	}
	box := boxFor(q, 0, "yo")
	text, epoch, errno := s.Open(3, q.Local, 0, box)
	check(t, "Open", fmt.Sprint(text, epoch, errno == api.OK), "yo2 true")
	check(t, "Slots behind Open", held(s), [3]int{1, 2, 0})
	_, _, errno = s.Open(3, q.Local, 0, box)
	check(t, "Open once more", errno, api.ErrReplay)
	checkSeal(t, "old", s, 180001, api.ErrKey)
	checkLocals(t, "Expire", s.Expire(180001), p.Local, q.Local)
}

// P9.1

func TestNew(t *testing.T) {
	s := New()
	if s == nil {
		t.Fatal("New is nil")
	}
	checkEmpty(t, "new", s)
}

// checkEmpty asks a session without keypairs all that it can be asked.
func checkEmpty(t *testing.T, what string, s *Session) {
	t.Helper()
	check(t, what+": len of Slots", len(s.Slots()), 0)
	check(t, what+": Due", s.Due(), -1)
	check(t, what+": len of Expire", len(s.Expire(0)), 0)
	check(t, what+": len of Close", len(s.Close()), 0)
	check(t, what+": Wants", s.Wants(0, true), true)
	check(t, what+": Wants, none sent", s.Wants(0, false), false)
	checkSeal(t, what, s, 0, api.ErrKey)
	checkOpen(t, what, s, 0, api.Pair{}, 0, api.ErrIndex)
	checkOpen(t, what, s, 0, p1, 0, api.ErrIndex)
}

func TestPutFirst(t *testing.T) {
	s := New()
	mustPut(t, s, 0, p1, true)
	check(t, "into an empty one", held(s), [3]int{0, 1, 0})
	mustPut(t, s, 0, p2, true)
	check(t, "behind a current one", held(s), [3]int{1, 2, 0})
	mustPut(t, s, 0, p3, true)
	check(t, "behind a previous and a current one", held(s), [3]int{2, 3, 0})

	s = New()
	mustPut(t, s, 0, p1, false)
	mustPut(t, s, 0, p2, true)
	check(t, "behind a next one alone", held(s), [3]int{1, 2, 0})

	s = New()
	mustPut(t, s, 0, p1, true)
	mustPut(t, s, 0, p2, false)
	mustPut(t, s, 0, p3, true)
	check(t, "behind a current and a next one", held(s), [3]int{2, 3, 0})

	s = full(t)
	mustPut(t, s, 40, p4, true)
	check(t, "behind all three", held(s), [3]int{3, 4, 0})
}

func TestPutNext(t *testing.T) {
	s := New()
	mustPut(t, s, 0, p1, false)
	check(t, "into an empty one", held(s), [3]int{0, 0, 1})
	mustPut(t, s, 0, p2, false)
	check(t, "in place of a next one", held(s), [3]int{0, 0, 2})
	checkOpen(t, "what was it", s, 0, p1, 0, api.ErrIndex)

	s = full(t)
	mustPut(t, s, 40, p4, false)
	check(t, "behind all three", held(s), [3]int{1, 2, 4})
	checkOpen(t, "what was next", s, 40, p3, 0, api.ErrIndex)
}

// No calls lead to a previous keypair without a current one; what is promised of it holds all the same.
func TestPreviousStaysWithoutCurrent(t *testing.T) {
	s := full(t)
	s.slots[api.Current], s.slots[api.Next] = slot{}, slot{}
	mustPut(t, s, 40, p4, true)
	check(t, "first", held(s), [3]int{1, 4, 0})

	s = full(t)
	s.slots[api.Current] = slot{}
	checkOpen(t, "next", s, 40, p3, 0, api.OK)
	check(t, "opened by next", held(s), [3]int{1, 3, 0})
}

// A keypair that moves takes all that is known of it along.
func TestSlotsMoveWhole(t *testing.T) {
	s := New()
	mustPut(t, s, 5, p1, true)
	s.Seal(5, "one")
	s.Seal(5, "two")
	checkOpen(t, "current", s, 5, p1, 6, api.OK)
	mustPut(t, s, 9, p2, false)
	checkOpen(t, "next", s, 9, p2, 3, api.OK)
	checkSlots(t, "moved", s,
		api.Slot{Which: api.Previous, Epoch: 1, Local: 11, Far: 1011, First: true, Born: 5, Sent: 2, Top: 7},
		api.Slot{Which: api.Current, Epoch: 2, Local: 22, Far: 1022, First: false, Born: 9, Sent: 0, Top: 4})
	checkOpen(t, "previous, the same", s, 9, p1, 6, api.ErrReplay)
	checkOpen(t, "previous, another", s, 9, p1, 2, api.OK)
	checkOpen(t, "current, the same", s, 9, p2, 3, api.ErrReplay)
	mustPut(t, s, 12, p3, true)
	checkSlots(t, "behind another one", s,
		api.Slot{Which: api.Previous, Epoch: 2, Local: 22, Far: 1022, First: false, Born: 9, Sent: 0, Top: 4},
		api.Slot{Which: api.Current, Epoch: 3, Local: 33, Far: 1033, First: true, Born: 12})
}

func TestPutTwice(t *testing.T) {
	for _, p := range []api.Pair{p1, p2, p3} {
		for _, first := range []bool{true, false} {
			for _, now := range []int{30, 400000} { // what is old is still there
				s := full(t)
				before := s.Slots()
				other := pairOf(9, p.Local)
				epoch, errno := s.Put(now, other, first)
				check(t, "Put of an index that is there", errno, api.ErrTwice)
				check(t, "its epoch", epoch, 0)
				checkSlots(t, "behind ErrTwice", s, before...)
			}
		}
	}
	s := full(t)
	s.Put(30, p2, true)
	epoch, errno := s.Put(30, p4, true)
	check(t, "Put behind ErrTwice", errno, api.OK)
	check(t, "the epoch behind ErrTwice", epoch, 4)
	far := pairOf(9, p2.Far)
	far.Far = p3.Far
	_, errno = s.Put(30, far, false)
	check(t, "Put where another one's Far is the same", errno, api.OK)
}

// An empty slot has no index, though it is made of zeros.
func TestIndexZero(t *testing.T) {
	zero := api.Pair{}
	s := New()
	checkOpen(t, "none", s, 0, zero, 0, api.ErrIndex)
	mustPut(t, s, 0, zero, true)
	_, errno := s.Put(0, zero, true)
	check(t, "Put twice", errno, api.ErrTwice)
	checkOpen(t, "there", s, 0, zero, 0, api.OK)
	checkLocals(t, "Close", s.Close(), 0)
}

func TestEpochsGoOn(t *testing.T) {
	s := full(t)
	s.Close()
	epoch, errno := s.Put(40, p2, true)
	check(t, "Put of an index that went by Close", errno, api.OK)
	check(t, "its epoch", epoch, 4)
	s.Expire(180040)
	epoch, errno = s.Put(180040, p2, false)
	check(t, "Put of an index that went by Expire", errno, api.OK)
	check(t, "its epoch", epoch, 5)
	check(t, "Slots", held(s), [3]int{0, 0, 5})
}

// A keypair that comes once more, behind Close, has nothing of what it was.
func TestPutAgainIsNew(t *testing.T) {
	s := New()
	mustPut(t, s, 0, p1, true)
	s.Seal(0, "text")
	checkOpen(t, "first time", s, 0, p1, 9000, api.OK)
	s.Close()
	mustPut(t, s, 7, p1, true)
	checkSlots(t, "again", s, api.Slot{Which: api.Current, Epoch: 2, Local: 11, Far: 1011, First: true, Born: 7})
	checkOpen(t, "again", s, 7, p1, 0, api.OK)
}

// P9.2

func TestSeal(t *testing.T) {
	s := full(t)
	for n, text := range []string{"", "a", "text\x00\xff", string(make([]byte, 70000))} {
		far, counter, box, errno := s.Seal(30, text)
		check(t, "Seal", errno, api.OK)
		check(t, "its index", far, p2.Far)
		check(t, "its counter", counter, uint64(n))
		check(t, "its box", box == aead.Seal(p2.Send, aead.Nonce(uint64(n)), text, ""), true)
		check(t, "Sent", s.Slots()[1].Sent, uint64(n)+1)
	}
	check(t, "Sent of the others", s.Slots()[0].Sent+s.Slots()[2].Sent, 0)
}

func TestSealWithoutKey(t *testing.T) {
	s := New()
	mustPut(t, s, 0, p1, false)
	checkNoSeal(t, "next alone", s, 0, api.ErrKey)

	s = New()
	mustPut(t, s, 70, p1, true)
	checkSeal(t, "not old yet", s, 180069, api.OK)
	checkNoSeal(t, "old", s, 180070, api.ErrKey)
	check(t, "Sent", s.Slots()[0].Sent, 1)
}

func TestSealSpent(t *testing.T) {
	last := uint64(math.MaxUint64 - 8192)
	s := full(t)
	s.slots[api.Current].sent = last - 1
	far, counter, box, errno := s.Seal(30, "hi")
	check(t, "the last one", errno, api.OK)
	check(t, "its index", far, p2.Far)
	check(t, "its counter", counter, last-1)
	check(t, "its box", box == aead.Seal(p2.Send, aead.Nonce(last-1), "hi", ""), true)
	for range 2 {
		checkNoSeal(t, "behind the last one", s, 30, api.ErrSpent)
		check(t, "Sent", s.Slots()[1].Sent, last)
	}
	checkSeal(t, "spent and old", s, 180020, api.ErrKey)
}

// P9.3

func TestOpenByEach(t *testing.T) {
	for _, c := range []struct {
		p     api.Pair
		epoch int
		then  [3]int
	}{{p1, 1, [3]int{1, 2, 3}}, {p2, 2, [3]int{1, 2, 3}}, {p3, 3, [3]int{2, 3, 0}}} {
		for _, text := range []string{"", "hello"} {
			s := full(t)
			got, epoch, errno := s.Open(30, c.p.Local, 5, boxFor(c.p, 5, text))
			check(t, "Open", errno, api.OK)
			check(t, "its text", got, text)
			check(t, "its epoch", epoch, c.epoch)
			check(t, "then", held(s), c.then)
			for _, k := range s.Slots() {
				top := uint64(0)
				if k.Epoch == c.epoch {
					top = 6
				}
				check(t, "Top", k.Top, top)
			}
		}
	}
}

func TestOpenByNextAlone(t *testing.T) {
	s := New()
	mustPut(t, s, 0, p1, false)
	checkOpen(t, "next", s, 0, p1, 0, api.OK)
	check(t, "then", held(s), [3]int{0, 1, 0})
	checkSeal(t, "then", s, 0, api.OK)
}

// The errors one by one, each where all that come later would apply too: nothing becomes of any.
func TestOpenErrors(t *testing.T) {
	last := uint64(math.MaxUint64 - 8192)
	for _, c := range []struct {
		what    string
		now     int
		index   uint32
		counter uint64
		box     string
		want    api.Errno
	}{
		{"no such index", 300000, 55, math.MaxUint64, "", api.ErrIndex},
		{"another's index", 300000, p2.Far, math.MaxUint64, "", api.ErrIndex},
		{"previous is old", 180010, p1.Local, math.MaxUint64, "", api.ErrKey},
		{"current is old", 180020, p2.Local, 4, "", api.ErrKey},
		{"next is old", 180030, p3.Local, last, "", api.ErrKey},
		{"the greatest counter", 30, p2.Local, math.MaxUint64, boxFor(p2, math.MaxUint64, "x"), api.ErrReplay},
		{"the last counter", 30, p2.Local, last, boxFor(p2, last, "x"), api.ErrReplay},
		{"the last counter, no box", 30, p3.Local, last, "", api.ErrReplay},
		{"it came", 30, p1.Local, 20000, boxFor(p1, 20000, "x"), api.ErrReplay},
		{"it came, no box", 30, p1.Local, 20000, "", api.ErrReplay},
		{"it is late", 30, p1.Local, 20000 - 8192, boxFor(p1, 20000-8192, "x"), api.ErrReplay},
		{"no box", 30, p1.Local, 20001, "", api.ErrOpen},
		{"a box of another counter", 30, p2.Local, 7, boxFor(p2, 8, "x"), api.ErrOpen},
		{"a box by Send", 30, p2.Local, 7, aead.Seal(p2.Send, aead.Nonce(7), "x", ""), api.ErrOpen},
		{"a box with something beside", 30, p3.Local, 7, aead.Seal(p3.Recv, aead.Nonce(7), "x", "y"), api.ErrOpen},
		{"another keypair's box", 30, p3.Local, 7, boxFor(p2, 7, "x"), api.ErrOpen},
		{"a mark too short", 30, p3.Local, 7, boxFor(p3, 7, "")[:15], api.ErrOpen},
	} {
		s := full(t)
		checkOpen(t, "made", s, 30, p1, 20000, api.OK)
		before := s.Slots()
		text, epoch, errno := s.Open(c.now, c.index, c.counter, c.box)
		check(t, c.what, errno, c.want)
		check(t, c.what+": text", text, "")
		check(t, c.what+": epoch", epoch, 0)
		checkSlots(t, c.what, s, before...)
	}
}

func TestOpenNotOldYet(t *testing.T) {
	s := full(t)
	checkOpen(t, "previous", s, 180009, p1, 0, api.OK)
	checkOpen(t, "current", s, 180019, p2, 0, api.OK)
	checkOpen(t, "next", s, 180029, p3, 0, api.OK)
	checkOpen(t, "what is previous now", s, 180029, p2, 1, api.ErrKey)
}

// What didn't open did not come: the right box of that counter still opens.
func TestWrongBoxUsesNoCounter(t *testing.T) {
	s := full(t)
	for _, p := range []api.Pair{p1, p2, p3} {
		_, _, errno := s.Open(30, p.Local, 3, "no box, though as long as one")
		check(t, "a wrong box", errno, api.ErrOpen)
		checkOpen(t, "the right one", s, 30, p, 3, api.OK)
		checkOpen(t, "once more", s, 30, p, 3, api.ErrReplay)
	}
}

func TestOpenLastCounter(t *testing.T) {
	last := uint64(math.MaxUint64 - 8192)
	s := full(t)
	checkOpen(t, "just below", s, 30, p2, last-1, api.OK)
	check(t, "Top", s.Slots()[0].Top, last)
	checkOpen(t, "the last", s, 30, p2, last, api.ErrReplay)
	checkOpen(t, "late by the window", s, 30, p2, last-1-8192, api.ErrReplay)
	checkOpen(t, "in the window", s, 30, p2, last-8192, api.OK)
}

func TestRetire(t *testing.T) {
	s := full(t)
	checkOpen(t, "Top 8191", s, 30, p2, 8190, api.OK)
	check(t, "Top 8191", held(s), [3]int{1, 2, 3})
	checkOpen(t, "previous", s, 30, p1, 0, api.OK)
	checkOpen(t, "Top 8192", s, 30, p2, 8191, api.OK)
	check(t, "Top 8192", held(s), [3]int{0, 2, 3})
	checkOpen(t, "previous, gone", s, 30, p1, 1, api.ErrIndex)

	s = full(t)
	checkOpen(t, "previous with a great Top", s, 30, p1, 20000, api.OK)
	check(t, "it retires nothing", held(s), [3]int{1, 2, 3})
	checkOpen(t, "current with a small one", s, 30, p2, 0, api.OK)
	check(t, "neither", held(s), [3]int{1, 2, 3})
}

// What was next is current by then: it may retire the one ahead of it at once.
func TestRetireByNext(t *testing.T) {
	s := full(t)
	checkOpen(t, "next, Top 8191", s, 30, p3, 8190, api.OK)
	check(t, "next, Top 8191", held(s), [3]int{2, 3, 0})

	s = full(t)
	checkOpen(t, "next, Top 8192", s, 30, p3, 8191, api.OK)
	check(t, "next, Top 8192", held(s), [3]int{0, 3, 0})
}

// The Top that counts is the current keypair's own.
func TestRetireByOwnTop(t *testing.T) {
	s := New()
	mustPut(t, s, 0, p1, true)
	checkOpen(t, "far on", s, 0, p1, 9000, api.OK)
	mustPut(t, s, 0, p2, true)
	check(t, "a new one", held(s), [3]int{1, 2, 0})
	checkOpen(t, "the new one", s, 0, p2, 100, api.OK)
	check(t, "behind its first counter", held(s), [3]int{1, 2, 0})
}

// P9.4

func TestWants(t *testing.T) {
	for _, c := range []struct {
		what  string
		first bool
		age   int
		seals uint64
		sent  bool
		want  bool
	}{
		{"young", true, 0, 0, true, false},
		{"sent, just ahead", true, 119999, 0, true, false},
		{"sent, at the age", true, 120000, 0, true, true},
		{"sent, old", true, 500000, 0, true, true},
		{"sent, few counters", true, 0, 1<<60 - 1, true, false},
		{"sent, many counters", true, 0, 1 << 60, true, true},
		{"sent, spent", true, 0, math.MaxUint64 - 8192, true, true},
		{"came, many counters", true, 164999, 1 << 61, false, false},
		{"came, at the age of the sent", true, 120000, 0, false, false},
		{"came, just ahead", true, 164999, 0, false, false},
		{"came, at the age", true, 165000, 0, false, true},
		{"came, old", true, 500000, 0, false, true},
		{"answered, sent", false, 500000, 1 << 61, true, false},
		{"answered, came", false, 500000, 1 << 61, false, false},
	} {
		s := New()
		mustPut(t, s, 1000, p1, c.first)
		if !c.first {
			checkOpen(t, c.what, s, 1000, p1, 0, api.OK)
		}
		s.slots[api.Current].sent = c.seals
		before := s.Slots()
		check(t, c.what, s.Wants(1000+c.age, c.sent), c.want)
		checkSlots(t, c.what, s, before...)
	}
}

// It is asked of what is current alone.
func TestWantsOfOthers(t *testing.T) {
	s := New()
	mustPut(t, s, 0, p1, false)
	check(t, "next alone, sent", s.Wants(0, true), true)
	check(t, "next alone, came", s.Wants(200000, false), false)

	s = New()
	mustPut(t, s, 0, p1, true)
	mustPut(t, s, 100000, p2, true)
	mustPut(t, s, 100000, p3, false)
	check(t, "an old previous one, sent", s.Wants(219999, true), false)
	check(t, "an old previous one, came", s.Wants(264999, false), false)
}

// P9.5

func TestExpire(t *testing.T) {
	s := full(t)
	check(t, "Due", s.Due(), 180010)
	checkLocals(t, "none is old", s.Expire(180009))
	checkLocals(t, "previous", s.Expire(180010), 11)
	check(t, "previous", held(s), [3]int{0, 2, 3})
	check(t, "Due", s.Due(), 180020)
	checkLocals(t, "once more", s.Expire(180010))
	checkLocals(t, "current and next", s.Expire(180030), 22, 33)
	checkEmpty(t, "all", s)

	s = full(t)
	checkLocals(t, "all at once", s.Expire(180030), 11, 22, 33)
	checkEmpty(t, "all at once", s)
	s = full(t)
	checkLocals(t, "two", s.Expire(180029), 11, 22)
	check(t, "two", held(s), [3]int{0, 0, 3})
	check(t, "Due of next", s.Due(), 180030)
	checkSeal(t, "two", s, 180029, api.ErrKey)
	check(t, "Wants, none current", s.Wants(180029, true), true)
}

// Only Expire lets go: what is old stays as it is till then.
func TestOldStays(t *testing.T) {
	s := full(t)
	before := s.Slots()
	checkSeal(t, "old", s, 900000, api.ErrKey)
	checkOpen(t, "old", s, 900000, p1, 0, api.ErrKey)
	s.Wants(900000, true)
	checkSlots(t, "old", s, before...)
	check(t, "Due", s.Due(), 180010)
}

func TestClose(t *testing.T) {
	s := full(t)
	checkLocals(t, "Close", s.Close(), 11, 22, 33)
	checkLocals(t, "once more", s.Close())
	checkEmpty(t, "closed", s)
}

// Due looks for the least time in each slot, in whichever order they lie.
func TestDueOfEach(t *testing.T) {
	for which := range 3 {
		s := full(t)
		s.slots[which].born = 3
		check(t, "Due", s.Due(), 180003)
	}
}

func TestToldIsItsOwners(t *testing.T) {
	s := full(t)
	told := s.Slots()
	kept := slices.Clone(told)
	for i := range told {
		told[i] = api.Slot{Which: 9, Epoch: 9, Local: 9}
	}
	_ = append(told[:0], api.Slot{})
	checkSlots(t, "behind a change", s, kept...)

	told = s.Slots()
	s.Seal(30, "text")
	checkOpen(t, "next", s, 30, p3, 0, api.OK)
	s.Close()
	check(t, "told earlier", slices.Equal(told, kept), true)

	s = full(t)
	locals := s.Expire(180010)
	locals = append(locals, 5)
	more := s.Close()
	checkLocals(t, "told by Expire", locals, 11, 5)
	more[0] = 77
	mustPut(t, s, 180010, p2, true)
	checkLocals(t, "told by Close", more, 77, 33)
	checkLocals(t, "behind a change", s.Close(), 22)
}

// Its time is the greatest that any call told, though it ended in an error.
func TestTimeOnlyRises(t *testing.T) {
	for what, tell := range map[string]func(*Session){
		"Put":          func(s *Session) { s.Put(5000, p2, false) },
		"Put, twice":   func(s *Session) { s.Put(5000, p1, false) },
		"Seal":         func(s *Session) { s.Seal(5000, "") },
		"Seal, no key": func(s *Session) { s.Close(); s.Seal(5000, "") },
		"Open":         func(s *Session) { s.Open(5000, p1.Local, 0, boxFor(p1, 0, "")) },
		"Open, none":   func(s *Session) { s.Open(5000, 99, 0, "") },
		"Wants":        func(s *Session) { s.Wants(5000, true) },
		"Expire":       func(s *Session) { s.Expire(5000) },
	} {
		s := New()
		mustPut(t, s, 0, p1, true)
		tell(s)
		mustPut(t, s, 40, p3, true)
		for _, k := range s.Slots() {
			if k.Local == p3.Local {
				check(t, what+": born", k.Born, 5000)
			}
		}
	}
}

// A lesser time counts as the greatest in each call.
func TestLesserTimes(t *testing.T) {
	s := New()
	mustPut(t, s, 0, p1, true)
	s.Wants(164999, false)
	check(t, "Wants, sent", s.Wants(0, true), true)
	check(t, "Wants, came", s.Wants(0, false), false)
	s.Wants(180000, false)
	checkSeal(t, "lesser", s, 0, api.ErrKey)
	checkOpen(t, "lesser", s, -7, p1, 0, api.ErrKey)
	check(t, "Wants, came", s.Wants(math.MinInt, false), true)
	checkLocals(t, "Expire", s.Expire(1), 11)

	s = New()
	mustPut(t, s, math.MinInt, p1, true)
	check(t, "born ahead of 0", s.Slots()[0].Born, 0)
	check(t, "Due", s.Due(), 180000)
}

// Behind the last numbers there is no time at which a keypair is old.
func TestGreatestTimes(t *testing.T) {
	s := New()
	mustPut(t, s, math.MaxInt-180000, p1, true)
	mustPut(t, s, math.MaxInt-179999, p2, true)
	check(t, "Due of the last one", s.Due(), math.MaxInt)
	checkLocals(t, "Expire", s.Expire(math.MaxInt-1))
	checkLocals(t, "Expire", s.Expire(math.MaxInt), 11)
	check(t, "Due of none", s.Due(), -1)
	mustPut(t, s, math.MaxInt, p3, false)
	check(t, "Due of none", s.Due(), -1)
	checkSeal(t, "never old", s, math.MaxInt, api.OK)
	checkOpen(t, "never old", s, math.MaxInt, p3, 0, api.OK)
	checkLocals(t, "Expire", s.Expire(math.MaxInt))

	s = New()
	mustPut(t, s, 0, p1, true)
	check(t, "Wants at the end", s.Wants(math.MaxInt, false), true)
	checkLocals(t, "Expire at the end", s.Expire(math.MaxInt), 11)
}

// What is said below P9.6.

func TestNil(t *testing.T) {
	var s *Session
	epoch, errno := s.Put(5, p1, true)
	check(t, "Put", fmt.Sprint(epoch, int(errno)), "0 1")
	checkNoSeal(t, "nil", s, 5, api.ErrArg)
	text, epoch, errno := s.Open(5, 1, 2, boxFor(p1, 2, "text"))
	check(t, "Open", fmt.Sprint(text, epoch, int(errno)), "0 1")
	check(t, "Wants, sent", s.Wants(5, true), true)
	check(t, "Wants, came", s.Wants(500000, false), false)
	check(t, "len of Expire", len(s.Expire(5)), 0)
	check(t, "Due", s.Due(), -1)
	check(t, "len of Slots", len(s.Slots()), 0)
	check(t, "len of Close", len(s.Close()), 0)
}

func TestZero(t *testing.T) {
	checkEmpty(t, "zero", new(Session))
	s := new(Session)
	mustPut(t, s, 3, p1, true)
	mustPut(t, s, 4, p2, false)
	checkOpen(t, "zero", s, 5, p2, 6, api.OK)
	checkSlots(t, "zero", s,
		api.Slot{Which: api.Previous, Epoch: 1, Local: 11, Far: 1011, First: true, Born: 3},
		api.Slot{Which: api.Current, Epoch: 2, Local: 22, Far: 1022, Born: 4, Top: 7})
}
