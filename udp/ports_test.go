package udp

import (
	"fmt"
	"math"
	"math/rand/v2"
	"slices"
	"strconv"
	"testing"

	"adit/api"
)

// P16.2

var wrongPorts = []int{math.MinInt, math.MinInt32, -65536, -49152, -1, 65536, 65537, 1 << 32, 1<<32 + 53, math.MaxInt}

func TestOpenOfWrongNumbers(t *testing.T) {
	e := newBoth(t)
	refused := func(port, depth int) {
		t.Helper()
		got, errno := e.open(port, depth)
		check(t, fmt.Sprintf("Open(%d, %d)", port, depth), fmt.Sprint(got, int(errno)), "0 1")
	}
	wrong := func() {
		t.Helper()
		for _, port := range wrongPorts {
			refused(port, 1)
			refused(port, 16)
			refused(port, 0)
		}
		for _, depth := range []int{math.MinInt, -16, -1, 0, 17, 18, 1<<32 + 1, math.MaxInt} {
			for _, port := range []int{0, 1, 53, 49152, 65535} {
				refused(port, depth)
			}
		}
	}
	wrong()
	e.open(53, 1)
	wrong() // ahead of ErrPort
	for range 15 {
		e.open(0, 1)
	}
	check(t, "full", len(e.ports.List()), 16)
	wrong() // ahead of ErrFull
}

func TestOpenOfEachPort(t *testing.T) {
	p := NewPorts[int]()
	for port := 1; port <= 65535; port++ {
		got, errno := p.Open(port, 1)
		if got != port || errno != api.OK || p.Waiting(port) != 0 {
			t.Fatalf("Open(%d, 1): %d %d, %d wait", port, got, errno, p.Waiting(port))
		}
		if errno := p.Shut(port); errno != api.OK {
			t.Fatalf("Shut(%d): %d", port, errno)
		}
	}
	check(t, "List", len(p.List()), 0)
}

func TestDepths(t *testing.T) {
	for depth := 1; depth <= 16; depth++ {
		e := newBoth(t)
		e.open(53, depth)
		for i := range 20 {
			n, errno := e.offer(53, strconv.Itoa(i))
			check(t, fmt.Sprint("Offer ", i, " at the depth ", depth), fmt.Sprint(n == 1, int(errno)), fmt.Sprint(i < depth, 0))
		}
		check(t, "Waiting", e.ports.Waiting(53), depth)
		for i := range depth {
			item, errno := e.take(53)
			check(t, "Take", fmt.Sprint(item, " ", int(errno)), fmt.Sprint(i, " ", 0))
		}
		_, errno := e.take(53)
		check(t, "Take of nothing", errno, api.ErrAgain)
	}
}

// Full is asked ahead of which port is meant, and of whether it is open.
func TestMostPorts(t *testing.T) {
	e := newBoth(t)
	for port := 1; port <= 16; port++ {
		got, errno := e.open(100*port, 1)
		check(t, "Open", fmt.Sprint(got, int(errno)), fmt.Sprint(100*port, 0))
	}
	for range 2 {
		for _, port := range []int{0, 1, 100, 1600, 49152, 65535} {
			_, errno := e.open(port, 1)
			check(t, fmt.Sprint("the seventeenth, ", port), errno, api.ErrFull)
		}
	}
	e.offer(700, "a")
	check(t, "Shut", e.shut(800), api.OK)
	got, errno := e.open(700, 1)
	check(t, "one that is open", fmt.Sprint(got, int(errno)), "0 80")
	got, errno = e.open(0, 1)
	check(t, "the sixteenth", fmt.Sprint(got, int(errno)), "49152 0")
	got, errno = e.open(800, 1)
	check(t, "the seventeenth", fmt.Sprint(got, int(errno)), "0 81")
	check(t, "it waits there still", e.ports.Waiting(700), 1)
}

func TestPort0(t *testing.T) {
	e := newBoth(t)
	opens := func(want int) {
		t.Helper()
		got, errno := e.open(0, 3)
		check(t, "Open(0, 3)", fmt.Sprint(got, int(errno)), fmt.Sprint(want, 0))
	}
	e.open(49151, 1)
	e.open(49153, 1)
	e.open(65535, 1)
	opens(49152)
	opens(49154)
	e.open(49155, 1)
	opens(49156)
	for _, port := range []int{49154, 49152, 49156} {
		e.shut(port)
	}
	opens(49152) // the least one, though 49156 was shut last
	opens(49154)
	opens(49156)
	opens(49157)
	e.shut(49151)
	opens(49158)
	_, errno := e.open(49158, 1)
	check(t, "what was meant is open", errno, api.ErrPort)
}

// Port 0 means another one to Open alone: it is never open itself.
func TestPortsThatAreNotOpen(t *testing.T) {
	e := newBoth(t)
	e.open(53, 2)
	e.open(0, 2)
	e.offer(53, "a", "b")
	for _, port := range append([]int{0, 1, 52, 54, 49151, 49153, 65535}, wrongPorts...) {
		what := fmt.Sprint("at ", port)
		check(t, what+": Shut", e.shut(port), api.ErrPort)
		n, errno := e.offer(port, "x", "y")
		check(t, what+": Offer", fmt.Sprint(n, int(errno)), "0 80")
		n, errno = e.offer(port)
		check(t, what+": Offer of nothing", fmt.Sprint(n, int(errno)), "0 80")
		item, errno := e.take(port)
		check(t, what+": Take", fmt.Sprint(item, " ", int(errno)), " 80")
		check(t, what+": Waiting", e.ports.Waiting(port), 0)
	}
	check(t, "List", fmt.Sprint(e.ports.List()), "[53 49152]")
	check(t, "what waits", e.ports.Waiting(53), 2)
}

func TestShut(t *testing.T) {
	e := newBoth(t)
	e.open(53, 3)
	e.open(54, 3)
	e.offer(53, "a", "b")
	e.offer(54, "c", "d")
	check(t, "Shut", e.shut(53), api.OK)
	check(t, "once more", e.shut(53), api.ErrPort)
	check(t, "Waiting", e.ports.Waiting(53), 0)
	_, errno := e.take(53)
	check(t, "Take", errno, api.ErrPort)
	got, errno := e.open(53, 1)
	check(t, "Open", fmt.Sprint(got, int(errno)), "53 0")
	_, errno = e.take(53)
	check(t, "what waited is gone", errno, api.ErrAgain)
	n, errno := e.offer(53, "e", "f")
	check(t, "another depth", fmt.Sprint(n, int(errno)), "1 0")
	item, errno := e.take(54)
	check(t, "the other port stays", fmt.Sprint(item, " ", int(errno)), "c 0")
}

// A port that is open stays as it is, whoever opens it again.
func TestOpenOfOneThatIsOpen(t *testing.T) {
	e := newBoth(t)
	e.open(53, 2)
	e.offer(53, "a")
	for depth := 1; depth <= 16; depth++ {
		got, errno := e.open(53, depth)
		check(t, fmt.Sprint("Open with depth ", depth), fmt.Sprint(got, int(errno)), "0 80")
	}
	n, _ := e.offer(53, "b", "c")
	check(t, "its depth", n, 1)
	item, _ := e.take(53)
	check(t, "what waited", item, "a")
}

// P16.3

func TestOfferOfMany(t *testing.T) {
	items := make([]string, 100000)
	for i := range items {
		items[i] = strconv.Itoa(i)
	}
	for waits := range 16 {
		p := NewPorts[string]()
		p.Open(53, 16)
		p.Offer(53, items[:waits]...)
		n, errno := p.Offer(53, items[waits:]...)
		check(t, fmt.Sprint(waits, " wait: Offer"), fmt.Sprint(n, int(errno)), fmt.Sprint(16-waits, 0))
		n, errno = p.Offer(53, items...)
		check(t, "once more", fmt.Sprint(n, int(errno)), "0 0")
		for i := range 16 {
			item, errno := p.Take(53)
			check(t, "Take", fmt.Sprint(item, " ", int(errno)), fmt.Sprint(i, " ", 0))
		}
		_, errno = p.Take(53)
		check(t, "the others were dropped", errno, api.ErrAgain)
	}
}

func TestOfferOfNothing(t *testing.T) {
	e := newBoth(t)
	e.open(53, 1)
	for range 2 {
		n, errno := e.offer(53)
		check(t, "Offer", fmt.Sprint(n, int(errno)), "0 0")
		n, errno = e.ports.Offer(53, nil...)
		check(t, "Offer of nil", fmt.Sprint(n, int(errno)), "0 0")
		e.offer(53, "a")
	}
}

// What is a zero value waits as all else does.
func TestZeroItems(t *testing.T) {
	p := NewPorts[*int]()
	p.Open(1, 2)
	n, errno := p.Offer(1, nil, nil, nil)
	check(t, "Offer", fmt.Sprint(n, int(errno), p.Waiting(1)), "2 0 2")
	for range 2 {
		item, errno := p.Take(1)
		check(t, "Take", fmt.Sprint(item == nil, int(errno)), "true 0")
	}
	_, errno = p.Take(1)
	check(t, "Take of nothing", errno, api.ErrAgain)
	q := NewPorts[struct{}]()
	q.Open(1, 16)
	n, errno = q.Offer(1, make([]struct{}, 20)...)
	check(t, "Offer of what has no bytes", fmt.Sprint(n, int(errno), q.Waiting(1)), "16 0 16")
}

// Room comes by each Take, and the order stays, however often the places are gone round.
func TestOfferAndTake(t *testing.T) {
	e := newBoth(t)
	e.open(53, 3)
	offered, taken := 0, 0
	for round := range 50 {
		for range round % 5 {
			n, _ := e.offer(53, strconv.Itoa(offered))
			offered += n
		}
		for range round % 3 {
			if item, errno := e.take(53); errno == api.OK {
				check(t, "Take", item, strconv.Itoa(taken))
				taken++
			}
		}
		check(t, "Waiting", e.ports.Waiting(53), offered-taken)
	}
	if taken < 40 {
		t.Errorf("%d taken: too few to tell anything", taken)
	}
}

func TestList(t *testing.T) {
	e := newBoth(t)
	check(t, "none", len(e.ports.List()), 0)
	want := []int{}
	for _, port := range []int{65535, 9, 49153, 1, 49152, 100, 256, 255, 40000, 10, 2, 65534, 99, 53, 52, 54} {
		e.open(port, 1)
		want = append(want, port)
		slices.Sort(want)
		check(t, "List", fmt.Sprint(e.ports.List()), fmt.Sprint(want))
	}
	list := e.ports.List()
	clear(list)
	check(t, "what is told is its owner's", fmt.Sprint(e.ports.List()), fmt.Sprint(want))
	list = e.ports.List()
	e.shut(1)
	check(t, "what is told doesn't change later", fmt.Sprint(list), fmt.Sprint(want))
	check(t, "without 1", fmt.Sprint(e.ports.List()), fmt.Sprint(want[1:]))
}

// R3: what was offered is as it was then, and what is handed in stays.
func TestItemsAreKeptApart(t *testing.T) {
	p := NewPorts[[2]string]()
	p.Open(53, 16)
	p.Open(54, 16)
	items := [][2]string{{"a", "b"}, {"c", "d"}, {"e", "f"}}
	p.Offer(53, items...)
	p.Offer(54, items...)
	check(t, "what is handed in", fmt.Sprint(items), "[[a b] [c d] [e f]]")
	clear(items)
	for _, port := range []int{53, 54} {
		for _, want := range []string{"[a b]", "[c d]", "[e f]"} {
			item, _ := p.Take(port)
			check(t, "Take", fmt.Sprint(item), want)
			item[0] = "z"
		}
	}
}

// Ports are generic in what waits there: anything may, one that no channel takes whole too.
func TestKindsOfItems(t *testing.T) {
	waits(t, 7, 8)
	waits(t, "a", "")
	waits(t, api.Datagram{Bytes: "a"}, api.Datagram{})
	waits(t, struct{ a, b any }{1, "x"}, struct{ a, b any }{nil, 2.5})
	waits[error](t, api.ErrArg, nil)
	waits(t, make(chan int), nil)
	waits(t, [70000]byte{5: 1, 69999: 2}, [70000]byte{1})
}

func waits[T comparable](t *testing.T, first, second T) {
	t.Helper()
	p := NewPorts[T]()
	p.Open(53, 2)
	n, errno := p.Offer(53, first, second, first)
	check(t, "Offer", fmt.Sprint(n, int(errno)), "2 0")
	for _, want := range []T{first, second} {
		item, errno := p.Take(53)
		if item != want || errno != api.OK {
			t.Errorf("Take of a %T: another one, %d", want, errno)
		}
	}
	var none T
	item, errno := p.Take(53)
	if item != none || errno != api.ErrAgain {
		t.Errorf("Take of no %T: not none, %d", none, errno)
	}
}

func TestNoPorts(t *testing.T) {
	var none *Ports[string]
	port, errno := none.Open(53, 1)
	check(t, "nil: Open", fmt.Sprint(port, int(errno)), "0 1")
	n, errno := none.Offer(53, "a")
	check(t, "nil: Offer", fmt.Sprint(n, int(errno)), "0 1")
	item, errno := none.Take(53)
	check(t, "nil: Take", fmt.Sprint(item, " ", int(errno)), " 1")
	check(t, "nil: Shut", none.Shut(53), api.ErrArg)
	check(t, "nil: Waiting and List", fmt.Sprint(none.Waiting(53), len(none.List())), "0 0")

	var zero Ports[string]
	check(t, "zero: none is open", fmt.Sprint(len(zero.List()), zero.Waiting(53), int(zero.Shut(53))), "0 0 80")
	_, errno = zero.Take(53)
	check(t, "zero: Take", errno, api.ErrPort)
	_, errno = zero.Offer(53, "a")
	check(t, "zero: Offer", errno, api.ErrPort)
	port, errno = zero.Open(0, 1)
	check(t, "zero: Open", fmt.Sprint(port, int(errno)), "49152 0")
	n, errno = zero.Offer(49152, "a", "b")
	check(t, "zero: Offer", fmt.Sprint(n, int(errno)), "1 0")

	if NewPorts[int]() == nil {
		t.Fatal("NewPorts is nil")
	}
	a, b := NewPorts[int](), NewPorts[int]()
	a.Open(53, 1)
	check(t, "another one", fmt.Sprint(a.List(), len(b.List())), "[53] 0")
}

// P16.4 of the ports: drawn ways against the model, which keeps what waits as a list.
func TestDrawnPorts(t *testing.T) {
	came := map[api.Errno]int{}
	for seed := range uint64(25) {
		r := rand.New(rand.NewPCG(16, 500+seed))
		e, count := newBoth(t), 0
		port := func() int {
			if list := e.ports.List(); len(list) > 0 && r.IntN(8) > 0 {
				return list[r.IntN(len(list))]
			}
			return []int{-1, 0, 1, 53, 49152 + r.IntN(20), 65535, 65536, r.IntN(65536)}[r.IntN(8)]
		}
		for range 500 {
			errno := api.OK
			switch r.IntN(12) {
			case 0, 1:
				_, errno = e.open(r.IntN(3)*port(), r.IntN(19)-1)
			case 2:
				if r.IntN(2) == 0 {
					errno = e.shut(port())
				}
			case 3, 4, 5, 6:
				var items []string
				for range r.IntN(5) {
					items = append(items, strconv.Itoa(count))
					count++
				}
				_, errno = e.offer(port(), items...)
			default:
				_, errno = e.take(port())
			}
			came[errno]++
		}
	}
	for errno, least := range map[api.Errno]int{api.OK: 3000, api.ErrArg: 200, api.ErrPort: 200, api.ErrAgain: 200, api.ErrFull: 20} {
		if came[errno] < least {
			t.Errorf("%d came %d times: too few to tell anything", errno, came[errno])
		}
	}
}
