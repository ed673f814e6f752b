package icmp

import (
	"fmt"
	"math/rand/v2"
	"reflect"
	"slices"
	"testing"

	"adit/api"
	"adit/ip"
)

// The model goes by the chapter's words alone: a sum is one number, taken modulo 65535; a bucket goes on millisecond by millisecond; paths stand in the order in which they were learned.

func modelValid(a api.Addr) bool { return a.V6 || [12]byte(a.B[4:]) == [12]byte{} }

// modelHost tells whether an address may be, and is neither None nor Group.
func modelHost(a api.Addr) bool {
	if a.V6 {
		return a.B != [16]byte{} && a.B[0] != 255
	}
	return modelValid(a) && a.B != [16]byte{} && a.B[0] < 224
}

func modelPair(src, dst api.Addr) bool {
	return modelValid(src) && modelValid(dst) && src.V6 == dst.V6
}

// modelSum is the checksum of bytes in which it is 0.
func modelSum(src, dst api.Addr, b string) int {
	if src.V6 {
		n := len(b)
		b = string(src.B[:]) + string(dst.B[:]) + string([]byte{0, byte(n >> 16), byte(n >> 8), byte(n), 0, 0, 0, 58}) + b
	}
	sum := 0
	for i := range len(b) {
		sum += int(b[i]) * []int{256, 1}[i%2]
	}
	if sum > 0 {
		sum = (sum-1)%65535 + 1
	}
	return 65535 - sum
}

func modelBuild(src, dst api.Addr, m api.Message) (string, api.Errno) {
	switch {
	case !modelPair(src, dst), m.Type < 0, m.Type > 255, m.Code < 0, m.Code > 255:
		return "", api.ErrArg
	case len(m.Body) > 65507:
		return "", api.ErrBig
	}
	b := []byte{byte(m.Type), byte(m.Code), 0, 0, byte(m.Rest >> 24), byte(m.Rest >> 16), byte(m.Rest >> 8), byte(m.Rest)}
	b = append(b, m.Body...)
	sum := modelSum(src, dst, string(b))
	b[2], b[3] = byte(sum/256), byte(sum%256)
	return string(b), api.OK
}

func modelParse(src, dst api.Addr, b string) (api.Message, api.Errno) {
	switch {
	case !modelPair(src, dst):
		return api.Message{}, api.ErrArg
	case len(b) < 8:
		return api.Message{}, api.ErrShort
	case len(b) > 65515, int(b[2])*256+int(b[3]) != modelSum(src, dst, b[:2]+"\x00\x00"+b[4:]):
		return api.Message{}, api.ErrCheck
	}
	rest := uint32(0)
	for _, c := range []byte(b[4:8]) {
		rest = 256*rest + uint32(c)
	}
	return api.Message{Type: int(b[0]), Code: int(b[1]), Rest: rest, Body: b[8:]}, api.OK
}

// modelMessage is what a whole packet of ICMP has.
func modelMessage(p api.Packet) (api.Message, bool) {
	proto := map[bool]int{false: 1, true: 58}[p.Src.V6]
	if !ip.Right(p) || p.More || p.Offset != 0 || p.Proto != proto {
		return api.Message{}, false
	}
	m, errno := modelParse(p.Src, p.Dst, p.Payload)
	return m, errno == api.OK
}

func modelPacket(src, dst api.Addr, m api.Message) api.Packet {
	p := api.Packet{Src: src, Dst: dst, Proto: 1, Hop: 64}
	if src.V6 {
		p.Proto = 58
	}
	p.Payload, _ = modelBuild(src, dst, m)
	return p
}

func modelEcho(p api.Packet) (api.Packet, bool) {
	m, ok := modelMessage(p)
	if !ok || !modelHost(p.Src) || !modelHost(p.Dst) || m.Code != 0 {
		return api.Packet{}, false
	}
	switch {
	case !p.Src.V6 && m.Type == 8:
		m.Type = 0
	case p.Src.V6 && m.Type == 128:
		m.Type = 129
	default:
		return api.Packet{}, false
	}
	return modelPacket(p.Dst, p.Src, m), true
}

// modelTable is Type, Code and Rest (-1: mtu) as the chapter's table has them: of version 4, of version 6.
func modelTable(kind int) [2][3]int {
	switch kind {
	case NoPort:
		return [2][3]int{{3, 3, 0}, {1, 4, 0}}
	case NoRoute:
		return [2][3]int{{3, 1, 0}, {1, 0, 0}}
	case TooOld:
		return [2][3]int{{11, 0, 0}, {3, 0, 0}}
	case TooBig:
		return [2][3]int{{3, 4, -1}, {2, 0, -1}}
	case TooLate:
		return [2][3]int{{11, 1, 0}, {3, 1, 0}}
	case NoProto:
		return [2][3]int{{3, 2, 0}, {4, 1, 6}}
	}
	panic("no such kind")
}

func modelProblem(kind int, from api.Addr, p api.Packet, mtu int) (api.Packet, bool) {
	b, errno := ip.Build(p)
	switch {
	case kind < 1, kind > 6, !modelHost(from), from.V6 != p.Src.V6, errno != api.OK, p.Offset > 0,
		!modelHost(p.Src), p.Dst.B[0] == 255, !p.Dst.V6 && p.Dst.B[0] >= 224, mtu < 0, mtu > 65535:
		return api.Packet{}, false
	case p.Proto == 1 && !p.Src.V6:
		if p.Payload == "" || slices.Contains([]byte{3, 4, 5, 11, 12}, p.Payload[0]) {
			return api.Packet{}, false
		}
	case p.Proto == 58 && p.Src.V6:
		if p.Payload == "" || p.Payload[0] < 128 {
			return api.Packet{}, false
		}
	}
	most, row := 4*int(b[0]%16)+8, modelTable(kind)[0]
	if p.Src.V6 {
		most, row = 1232, modelTable(kind)[1]
	}
	m := api.Message{Type: row[0], Code: row[1], Rest: uint32(row[2]), Body: b}
	if row[2] == -1 {
		m.Rest = uint32(mtu)
	}
	if len(b) > most {
		m.Body = b[:most]
	}
	return modelPacket(from, p.Src, m), true
}

func modelTold(p api.Packet) (api.Addr, int, bool) {
	m, ok := modelMessage(p)
	if !ok {
		return api.Addr{}, 0, false
	}
	dst, mtu := api.Addr{V6: p.Src.V6}, int(m.Rest&65535)
	switch {
	case !p.Src.V6 && m.Type == 3 && m.Code == 4 && len(m.Body) >= 20 && m.Body[0]/16 == 4:
		copy(dst.B[:], m.Body[16:20])
	case p.Src.V6 && m.Type == 2 && m.Code == 0 && len(m.Body) >= 40 && m.Body[0]/16 == 6:
		copy(dst.B[:], m.Body[24:40])
	default:
		return api.Addr{}, 0, false
	}
	return dst, mtu, true
}

type modelBucket struct{ tokens, time int }

func (m *modelBucket) allow(now int) bool {
	for m.time < now {
		m.time++
		if m.time%100 == 0 && m.tokens < 10 {
			m.tokens++
		}
	}
	if m.tokens == 0 {
		return false
	}
	m.tokens--
	return true
}

type modelPath struct {
	dst     api.Addr
	mtu, at int
}

type modelPaths struct {
	known []modelPath // the one that was learned first is first
	time  int
}

func (m *modelPaths) tell(now int) {
	if now > m.time {
		m.time = now
	}
	m.known = slices.DeleteFunc(m.known, func(p modelPath) bool { return m.time-600000 >= p.at })
}

func (m *modelPaths) find(dst api.Addr) int {
	return slices.IndexFunc(m.known, func(p modelPath) bool { return p.dst == dst })
}

func (m *modelPaths) learn(now int, dst api.Addr, mtu int) bool {
	m.tell(now)
	i := m.find(dst)
	if !modelValid(dst) || mtu < 0 || i >= 0 && mtu >= m.known[i].mtu {
		return false
	}
	least := 576
	if dst.V6 {
		least = 1280
	}
	if mtu < least {
		mtu = least
	}
	if i >= 0 {
		if m.known[i].mtu == mtu {
			return false
		}
		m.known = slices.Delete(m.known, i, i+1)
	}
	m.known = append(m.known, modelPath{dst, mtu, m.time})
	if len(m.known) > 16 {
		m.known = m.known[1:]
	}
	return true
}

func (m *modelPaths) mtu(now int, dst api.Addr, most int) int {
	m.tell(now)
	if i := m.find(dst); i >= 0 && m.known[i].mtu < most {
		return m.known[i].mtu
	}
	return most
}

// both are paths and their model, which are told the same.
type both struct {
	t     *testing.T
	paths *Paths
	m     modelPaths
}

func newBoth(t *testing.T) *both { return &both{t: t, paths: NewPaths()} }

func (e *both) learn(now int, dst api.Addr, mtu int) bool {
	e.t.Helper()
	got := e.paths.Learn(now, dst, mtu)
	check(e.t, fmt.Sprintf("Learn(%d, %v, %d)", now, dst, mtu), got, e.m.learn(now, dst, mtu))
	check(e.t, "Len", e.paths.Len(), len(e.m.known))
	return got
}

func (e *both) mtu(now int, dst api.Addr, most int) int {
	e.t.Helper()
	got := e.paths.MTU(now, dst, most)
	check(e.t, fmt.Sprintf("MTU(%d, %v, %d)", now, dst, most), got, e.m.mtu(now, dst, most))
	check(e.t, "Len", e.paths.Len(), len(e.m.known))
	return got
}

// What the tests lean on.

func check[V comparable](t *testing.T, what string, got, want V) {
	t.Helper()
	if got != want {
		t.Errorf("%s: %v, want %v", what, got, want)
	}
}

func checkBuild(t *testing.T, what string, src, dst api.Addr, m api.Message, want string, wantErrno api.Errno) {
	t.Helper()
	got, errno := Build(src, dst, m)
	if got != want || errno != wantErrno {
		t.Errorf("%s: Build: %.60x %d, want %.60x %d", what, got, errno, want, wantErrno)
	}
}

func checkParse(t *testing.T, what string, src, dst api.Addr, b string, want api.Message, wantErrno api.Errno) {
	t.Helper()
	got, errno := Parse(src, dst, b)
	if got != want || errno != wantErrno {
		t.Errorf("%s: Parse of %d bytes: %s %d, want %s %d", what, len(b), start(got), errno, start(want), wantErrno)
	}
}

func checkEcho(t *testing.T, what string, p, want api.Packet, wantOK bool) {
	t.Helper()
	got, ok := Echo(p)
	checkPacket(t, what+": Echo of "+brief(p), got, want)
	check(t, what+": Echo of "+brief(p), ok, wantOK)
}

func checkProblem(t *testing.T, what string, kind int, from api.Addr, p api.Packet, mtu int, want api.Packet, wantOK bool) {
	t.Helper()
	got, ok := Problem(kind, from, p, mtu)
	checkPacket(t, what+": Problem of "+brief(p), got, want)
	check(t, what+": Problem of "+brief(p), ok, wantOK)
}

func checkTold(t *testing.T, what string, p api.Packet, want api.Addr, wantMTU int, wantOK bool) {
	t.Helper()
	got, mtu, ok := Told(p)
	if got != want || mtu != wantMTU || ok != wantOK {
		t.Errorf("%s: Told of %s: %v %d %t, want %v %d %t", what, brief(p), got, mtu, ok, want, wantMTU, wantOK)
	}
}

// checkPacket holds packets against each other field by field, whatever fields there are; no Exts are no Exts.
func checkPacket(t *testing.T, what string, got, want api.Packet) {
	t.Helper()
	if len(got.Exts) == 0 && len(want.Exts) == 0 {
		got.Exts, want.Exts = nil, nil
	}
	if !reflect.DeepEqual(got, want) {
		t.Errorf("%s: %s, want %s", what, brief(got), brief(want))
	}
}

// brief is a packet with the first bytes of its Payload alone.
func brief(p api.Packet) string {
	b := fmt.Sprintf("%d bytes %.24x", len(p.Payload), p.Payload)
	p.Payload = ""
	return fmt.Sprintf("%s of %#v", b, p)
}

// start is a message with the first bytes of its Body alone.
func start(m api.Message) string {
	return fmt.Sprintf("{%d %d %d, %d bytes %.24x}", m.Type, m.Code, m.Rest, len(m.Body), m.Body)
}

// asModel holds all calls that ask for a packet against the model, and tells which of them answered.
func asModel(t *testing.T, kind int, from api.Addr, p api.Packet, mtu int) (echo, problem, told bool) {
	t.Helper()
	q, echo := modelEcho(p)
	checkEcho(t, "as the model", p, q, echo)
	q, problem = modelProblem(kind, from, p, mtu)
	checkProblem(t, fmt.Sprintf("as the model, kind %d from %v, mtu %d", kind, from, mtu), kind, from, p, mtu, q, problem)
	dst, n, told := modelTold(p)
	checkTold(t, "as the model", p, dst, n, told)
	return echo, problem, told
}

// text are so many bytes.
func text(n int) string {
	b := make([]byte, n)
	for i := range b {
		b[i] = byte(i + i/256*7 + 65)
	}
	return string(b)
}

func zeros(n int) string { return string(make([]byte, n)) }

func drawnText(r *rand.Rand, size int) string {
	b := make([]byte, size)
	for i := range b {
		b[i] = []byte{0, 255, byte(r.Uint32()), byte(r.Uint32())}[r.IntN(4)]
	}
	return string(b)
}
