package udp

import (
	"fmt"
	"math/rand/v2"
	"slices"
	"testing"

	"adit/api"
)

// The model goes by the chapter's words alone: a sum is one number, taken modulo 65535; ports and what waits there are lists.

func modelPair(src, dst api.Addr) bool {
	may := func(a api.Addr) bool { return a.V6 || [12]byte(a.B[4:]) == [12]byte{} }
	return may(src) && may(dst) && src.V6 == dst.V6
}

// modelSum is the checksum of a datagram's bytes, whatever stands in its place there.
func modelSum(src, dst api.Addr, b string) int {
	n := len(b)
	head := string(src.B[:4]) + string(dst.B[:4]) + string([]byte{0, 17, byte(n >> 8), byte(n)})
	if src.V6 {
		head = string(src.B[:]) + string(dst.B[:]) + string([]byte{0, 0, byte(n >> 8), byte(n), 0, 0, 0, 17})
	}
	all := head + b[:6] + "\x00\x00" + b[8:]
	sum := 0
	for i := range len(all) {
		sum += int(all[i]) * []int{256, 1}[i%2]
	}
	sum = 65535 - ((sum-1)%65535 + 1) // 17 is in the sum, so it isn't 0
	if sum == 0 {
		return 65535
	}
	return sum
}

func modelBuild(src, dst api.Addr, d api.UDP) (string, api.Errno) {
	switch {
	case !modelPair(src, dst), d.Src < 0, d.Src > 65535, d.Dst < 0, d.Dst > 65535:
		return "", api.ErrArg
	case len(d.Data) > 65507:
		return "", api.ErrBig
	}
	return modelBytes(src, dst, d), api.OK
}

// modelBytes are a datagram's bytes, though it may have more of them than Build allows.
func modelBytes(src, dst api.Addr, d api.UDP) string {
	n := 8 + len(d.Data)
	b := append([]byte{byte(d.Src / 256), byte(d.Src % 256), byte(d.Dst / 256), byte(d.Dst % 256), byte(n / 256), byte(n % 256), 0, 0}, d.Data...)
	return withSum(string(b), modelSum(src, dst, string(b)))
}

func modelParse(src, dst api.Addr, b string) (api.UDP, api.Errno) {
	switch {
	case !modelPair(src, dst):
		return api.UDP{}, api.ErrArg
	case len(b) < 8:
		return api.UDP{}, api.ErrShort
	}
	two := func(i int) int { return int(b[i])*256 + int(b[i+1]) }
	switch n := two(4); {
	case n < 8, n > len(b):
		return api.UDP{}, api.ErrLength
	case (src.V6 || two(6) != 0) && two(6) != modelSum(src, dst, b[:n]):
		return api.UDP{}, api.ErrCheck
	default:
		return api.UDP{Src: two(0), Dst: two(2), Data: b[8:n]}, api.OK
	}
}

func withSum(b string, sum int) string {
	return b[:6] + string([]byte{byte(sum / 256), byte(sum % 256)}) + b[8:]
}

func withSize(b string, size int) string {
	return b[:4] + string([]byte{byte(size / 256), byte(size % 256)}) + b[6:]
}

type modelPort[T any] struct {
	port, depth int
	items       []T
}

type modelPorts[T any] struct{ open []*modelPort[T] }

func (m *modelPorts[T]) find(port int) int {
	return slices.IndexFunc(m.open, func(o *modelPort[T]) bool { return o.port == port })
}

func (m *modelPorts[T]) Open(port, depth int) (int, api.Errno) {
	switch {
	case port < 0, port > 65535, depth < 1, depth > 16:
		return 0, api.ErrArg
	case len(m.open) == 16:
		return 0, api.ErrFull
	}
	if port == 0 {
		port = 49152
		for m.find(port) >= 0 {
			port++
		}
	}
	if m.find(port) >= 0 {
		return 0, api.ErrPort
	}
	m.open = append(m.open, &modelPort[T]{port: port, depth: depth})
	return port, api.OK
}

func (m *modelPorts[T]) Shut(port int) api.Errno {
	i := m.find(port)
	if i < 0 {
		return api.ErrPort
	}
	m.open = slices.Delete(m.open, i, i+1)
	return api.OK
}

func (m *modelPorts[T]) Offer(port int, items ...T) (int, api.Errno) {
	i := m.find(port)
	if i < 0 {
		return 0, api.ErrPort
	}
	o := m.open[i]
	n := min(o.depth-len(o.items), len(items))
	o.items = append(o.items, items[:n]...)
	return n, api.OK
}

func (m *modelPorts[T]) Take(port int) (T, api.Errno) {
	var none T
	i := m.find(port)
	if i < 0 {
		return none, api.ErrPort
	}
	o := m.open[i]
	if len(o.items) == 0 {
		return none, api.ErrAgain
	}
	item := o.items[0]
	o.items = o.items[1:]
	return item, api.OK
}

func (m *modelPorts[T]) Waiting(port int) int {
	if i := m.find(port); i >= 0 {
		return len(m.open[i].items)
	}
	return 0
}

func (m *modelPorts[T]) List() (list []int) {
	for _, o := range m.open {
		list = append(list, o.port)
	}
	slices.Sort(list)
	return list
}

// both are ports and their model, which are told the same.
type both struct {
	t     *testing.T
	ports *Ports[string]
	m     modelPorts[string]
}

func newBoth(t *testing.T) *both { return &both{t: t, ports: NewPorts[string]()} }

// ports16 are numbers that are asked whether something waits there, whatever was done.
var ports16 = []int{-1, 0, 1, 53, 65535, 65536, 49152, 49153}

// stand holds all that Waiting and List tell against the model.
func (e *both) stand(what string) {
	e.t.Helper()
	list := e.ports.List()
	check(e.t, what+": List", fmt.Sprint(list), fmt.Sprint(e.m.List()))
	for _, port := range append(list, ports16...) {
		check(e.t, fmt.Sprint(what, ": Waiting at ", port), e.ports.Waiting(port), e.m.Waiting(port))
	}
}

func (e *both) open(port, depth int) (int, api.Errno) {
	e.t.Helper()
	what := fmt.Sprintf("Open(%d, %d)", port, depth)
	got, errno := e.ports.Open(port, depth)
	want, wantErrno := e.m.Open(port, depth)
	check(e.t, what, fmt.Sprint(got, int(errno)), fmt.Sprint(want, int(wantErrno)))
	e.stand(what)
	return got, errno
}

func (e *both) shut(port int) api.Errno {
	e.t.Helper()
	what := fmt.Sprintf("Shut(%d)", port)
	errno := e.ports.Shut(port)
	check(e.t, what, errno, e.m.Shut(port))
	e.stand(what)
	return errno
}

func (e *both) offer(port int, items ...string) (int, api.Errno) {
	e.t.Helper()
	what := fmt.Sprintf("Offer(%d, %q)", port, items)
	got, errno := e.ports.Offer(port, items...)
	want, wantErrno := e.m.Offer(port, items...)
	check(e.t, what, fmt.Sprint(got, int(errno)), fmt.Sprint(want, int(wantErrno)))
	e.stand(what)
	return got, errno
}

func (e *both) take(port int) (string, api.Errno) {
	e.t.Helper()
	what := fmt.Sprintf("Take(%d)", port)
	got, errno := e.ports.Take(port)
	want, wantErrno := e.m.Take(port)
	check(e.t, what, fmt.Sprint(got, " ", int(errno)), fmt.Sprint(want, " ", int(wantErrno)))
	e.stand(what)
	return got, errno
}

// What the tests lean on.

func check[V comparable](t *testing.T, what string, got, want V) {
	t.Helper()
	if got != want {
		t.Errorf("%s: %v, want %v", what, got, want)
	}
}

func checkBuild(t *testing.T, what string, src, dst api.Addr, d api.UDP, want string, wantErrno api.Errno) {
	t.Helper()
	got, errno := Build(src, dst, d)
	if got != want || errno != wantErrno {
		t.Errorf("%s: Build: %.60x %d, want %.60x %d", what, got, errno, want, wantErrno)
	}
}

func checkParse(t *testing.T, what string, src, dst api.Addr, b string, want api.UDP, wantErrno api.Errno) {
	t.Helper()
	got, errno := Parse(src, dst, b)
	if got != want || errno != wantErrno {
		t.Errorf("%s: Parse of %d bytes: %s %d, want %s %d", what, len(b), start(got), errno, start(want), wantErrno)
	}
}

// start is a datagram with the first bytes of its Data alone.
func start(d api.UDP) string {
	return fmt.Sprintf("{%d %d, %d bytes %.24x}", d.Src, d.Dst, len(d.Data), d.Data)
}

// text are so many bytes.
func text(n int) string {
	b := make([]byte, n)
	for i := range b {
		b[i] = byte(i + i/256*7 + 65)
	}
	return string(b)
}

func zeros(n int) string { return string(make([]byte, n)) }

func drawnText(r *rand.Rand, size int) string {
	b := make([]byte, size)
	for i := range b {
		b[i] = []byte{0, 255, byte(r.Uint32()), byte(r.Uint32())}[r.IntN(4)]
	}
	return string(b)
}
