package icmp

import (
	"fmt"
	"math"
	"math/rand/v2"
	"strings"
	"testing"

	"adit/api"
	"adit/ip"
	"adit/wire"
)

// P15.1

func TestBuildOfVersion6(t *testing.T) {
	a, b := api.Addr{V6: true, B: [16]byte{0: 0xfe, 1: 0x80, 15: 1}}, api.Addr{V6: true, B: [16]byte{0: 0xfe, 1: 0x80, 15: 2}}
	// the sum by hand: 2 times fe80 (fd01), 1 and 2 (fd04), the length 10 (fd0e), 58 (fd48), 8000 (7d49), 1 (7d4a), 6162 (deac)
	checkBuild(t, "an echo request", a, b, api.Message{Type: 128, Rest: 1, Body: "ab"}, "\x80\x00\x21\x53\x00\x00\x00\x01ab", api.OK)
	checkParse(t, "an echo request", a, b, "\x80\x00\x21\x53\x00\x00\x00\x01ab", api.Message{Type: 128, Rest: 1, Body: "ab"}, api.OK)
}

func TestBuildOfEachField(t *testing.T) {
	for _, ends := range [][2]api.Addr{{one, two}, {one6, two6}, {api.Addr{}, wire.V4(255, 255, 255, 255)}, {{V6: true}, {V6: true}}} {
		for n := range 256 {
			for _, m := range []api.Message{
				{Type: n, Code: 255 - n, Rest: 0x01020304, Body: "abc"},
				{Type: 255 - n, Code: n, Rest: math.MaxUint32},
				{Rest: uint32(n), Body: text(n)},
				{Rest: uint32(n) << 24, Body: text(n) + zeros(n)},
			} {
				want, _ := modelBuild(ends[0], ends[1], m)
				checkBuild(t, fmt.Sprint("number ", n), ends[0], ends[1], m, want, api.OK)
				checkParse(t, fmt.Sprint("number ", n), ends[0], ends[1], want, m, api.OK)
			}
		}
	}
}

func TestWrongEnds(t *testing.T) {
	m, b := api.Message{Type: 8, Rest: 1, Body: "ab"}, "\x08\x00\x96\x9c\x00\x00\x00\x01ab"
	refused := func(what string, src, dst api.Addr) {
		t.Helper()
		checkBuild(t, what, src, dst, m, "", api.ErrArg)
		checkBuild(t, what+", ahead of ErrBig", src, dst, api.Message{Body: zeros(65508)}, "", api.ErrArg)
		checkParse(t, what, src, dst, b, api.Message{}, api.ErrArg)
		checkParse(t, what+", ahead of ErrShort", src, dst, b[:7], api.Message{}, api.ErrArg)
		checkParse(t, what+", ahead of ErrShort", src, dst, "", api.Message{}, api.ErrArg)
		checkParse(t, what+", ahead of ErrCheck", src, dst, b[:9], api.Message{}, api.ErrArg)
	}
	refused("versions 4 and 6", one, two6)
	refused("versions 6 and 4", one6, two)
	for i := 4; i < 16; i++ {
		refused(fmt.Sprint("src, byte ", i), mayNotBe(i), two)
		refused(fmt.Sprint("dst, byte ", i), one, mayNotBe(i))
		refused(fmt.Sprint("both, byte ", i), mayNotBe(i), mayNotBe(i))
	}
}

func TestBuildOfWrongNumbers(t *testing.T) {
	for _, n := range []int{math.MinInt, math.MinInt32, -256, -255, -1, 256, 257, 511, 65536, 1 << 32, 1<<32 + 8, math.MaxInt} {
		for _, ends := range [][2]api.Addr{{one, two}, {one6, two6}} {
			checkBuild(t, fmt.Sprint("Type ", n), ends[0], ends[1], api.Message{Type: n}, "", api.ErrArg)
			checkBuild(t, fmt.Sprint("Code ", n), ends[0], ends[1], api.Message{Code: n}, "", api.ErrArg)
			checkBuild(t, fmt.Sprint("ErrArg ahead of ErrBig, Code ", n), ends[0], ends[1], api.Message{Code: n, Body: zeros(65508)}, "", api.ErrArg)
		}
	}
}

func TestLongestMessages(t *testing.T) {
	for _, ends := range [][2]api.Addr{{one, two}, {one6, two6}} {
		for _, n := range []int{65505, 65506, 65507} {
			for _, body := range []string{text(n), zeros(n), strings.Repeat("\xff", n)} {
				m := api.Message{Type: 8, Rest: 5, Body: body}
				want, _ := modelBuild(ends[0], ends[1], m)
				checkBuild(t, fmt.Sprint(n, " bytes"), ends[0], ends[1], m, want, api.OK)
				checkParse(t, fmt.Sprint(n, " bytes"), ends[0], ends[1], want, m, api.OK)
			}
		}
		for _, n := range []int{65508, 65509, 65515, 65516, 65535, 65536, 70000, 1 << 20} {
			checkBuild(t, fmt.Sprint(n, " bytes"), ends[0], ends[1], api.Message{Body: text(n)}, "", api.ErrBig)
		}
		for _, n := range []int{65516, 65517, 65528, 65535, 65536, 65544, 70000, 1 << 20} {
			p := but(api.Packet{Src: ends[0], Dst: ends[1], Payload: text(n)}, sealed) // its checksum is right
			checkParse(t, fmt.Sprint(n, " bytes"), ends[0], ends[1], p.Payload, api.Message{}, api.ErrCheck)
			checkParse(t, fmt.Sprint(n, " bytes without a sum"), ends[0], ends[1], text(n), api.Message{}, api.ErrCheck)
		}
	}
}

func TestParseOfShortMessages(t *testing.T) {
	for n := range 8 {
		for _, b := range []string{text(n), zeros(n), strings.Repeat("\xff", n)} {
			checkParse(t, fmt.Sprint(n, " bytes"), one, two, b, api.Message{}, api.ErrShort)
			checkParse(t, fmt.Sprint(n, " bytes"), one6, two6, b, api.Message{}, api.ErrShort)
		}
	}
	checkParse(t, "8 bytes", one, two, "\x00\x00\xff\xff"+zeros(4), api.Message{}, api.OK)
	checkParse(t, "8 bytes", one, two, "\x08\x00\xf7\xfe\x00\x00\x00\x01", api.Message{Type: 8, Rest: 1}, api.OK)
}

// The checksum is asked as it is told: neither of 0 and 65535 stands for the other one.
func TestParseOfOtherSums(t *testing.T) {
	for _, rest := range []string{zeros(4), "\x00\x00\x00\x01", "\xf7\xff\x00\x00", "\xff\xff\x00\x00"} {
		for _, ends := range [][2]api.Addr{{one, two}, {one6, two6}} {
			right := modelSum(ends[0], ends[1], "\x08\x00\x00\x00"+rest)
			for sum := range 65536 {
				b := "\x08\x00" + string([]byte{byte(sum / 256), byte(sum % 256)}) + rest
				_, errno := Parse(ends[0], ends[1], b)
				if (errno == api.OK) != (sum == right) || errno != api.OK && errno != api.ErrCheck {
					t.Fatalf("sum %d in the place of %d: %d", sum, right, errno)
				}
			}
		}
	}
	check(t, "one of the sums is 0", modelSum(one, two, "\x08\x00\x00\x00\xf7\xff\x00\x00"), 0)
	checkParse(t, "65535 for 0", one, two, "\x08\x00\xff\xff\xf7\xff\x00\x00", api.Message{}, api.ErrCheck)
	checkParse(t, "0 for 65535", one, two, zeros(8), api.Message{}, api.ErrCheck)
	checkParse(t, "0 for 65535", one, two, zeros(100), api.Message{}, api.ErrCheck)
}

func TestParseOfTurnedBits(t *testing.T) {
	for _, size := range []int{0, 1, 2, 33} {
		for _, ends := range [][2]api.Addr{{one, two}, {one6, two6}} {
			b, _ := Build(ends[0], ends[1], api.Message{Type: 8, Code: 1, Rest: 77, Body: text(size)})
			for bit := range 8 * len(b) {
				turned := []byte(b)
				turned[bit/8] ^= 1 << (bit % 8)
				checkParse(t, fmt.Sprint("bit ", bit), ends[0], ends[1], string(turned), api.Message{}, api.ErrCheck)
			}
		}
	}
}

// The addresses and the length are in the sum of version 6 alone.
func TestParseForOthers(t *testing.T) {
	m := api.Message{Type: 8, Rest: 77, Body: "hello"}
	b, _ := Build(one, two, m)
	checkParse(t, "version 4, another address", two, wire.V4(1, 2, 3, 4), b, m, api.OK)
	checkParse(t, "version 4, a byte 0 more", one, two, b+"\x00", api.Message{Type: 8, Rest: 77, Body: "hello\x00"}, api.OK)
	b6, _ := Build(one6, two6, m)
	checkParse(t, "version 6, the other way", two6, one6, b6, m, api.OK)
	checkParse(t, "version 6, another address", one6, addr6(3), b6, api.Message{}, api.ErrCheck)
	checkParse(t, "version 6, another address", addr6(3), two6, b6, api.Message{}, api.ErrCheck)
	checkParse(t, "version 6, a byte 0 more", one6, two6, b6+"\x00", api.Message{}, api.ErrCheck)
	checkParse(t, "version 4 for version 6", one6, two6, b, api.Message{}, api.ErrCheck)
	checkParse(t, "version 6 for version 4", one, two, b6, api.Message{}, api.ErrCheck)
}

// P15.2

func TestEcho(t *testing.T) {
	for _, size := range []int{0, 1, 2, 56, 1000, 65506, 65507} {
		body := text(size)
		want := modelPacket(two, one, api.Message{Rest: 0x12345678, Body: body})
		for name, change := range map[string]func(p *api.Packet){
			"as it is": hop(9), "Hop 0": hop(0), "Options": options(40), "Still": func(p *api.Packet) { p.Still = true },
			"Class": func(p *api.Packet) { p.Class = 255 }, "ID": func(p *api.Packet) { p.ID = 65535 },
		} {
			checkEcho(t, name, but(with4(8, 0, 0x12345678, body), change), want, true)
		}
		want6 := modelPacket(two6, one6, api.Message{Type: 129, Rest: 0x12345678, Body: body})
		for name, change := range map[string]func(p *api.Packet){
			"as it is": hop(9), "Hop 0": hop(0), "Exts": exts(8, 24), "Cut": cut,
			"Class": func(p *api.Packet) { p.Class = 255 }, "Flow": func(p *api.Packet) { p.Flow = 1048575 },
		} {
			checkEcho(t, "version 6, "+name, but(with6(128, 0, 0x12345678, body), change), want6, true)
		}
	}
}

func TestNoEcho(t *testing.T) {
	p, p6 := with4(8, 0, 1, "ab"), with6(128, 0, 1, "ab")
	for name, q := range map[string]api.Packet{
		"zero": {}, "of version 6, zero": {Src: api.Addr{V6: true}, Dst: api.Addr{V6: true}},
		"More": but(p, more), "Offset": but(p, at(8)), "Offset and More": but(p, more, at(65528)),
		"Cut and More": but(p6, cut, more), "Cut and Offset": but(p6, cut, at(8)),
		"Proto 58": but(p, proto(58)), "Proto 0": but(p, proto(0)), "Proto 17": but(p, proto(17)), "Proto 257": but(p, proto(257)),
		"version 6, Proto 1": but(p6, proto(1)), "version 6, Proto 17": but(p6, proto(17)), "version 6, Proto 59": but(p6, proto(59)),
		"Hop": but(p, hop(256)), "Hop -1": but(p, hop(-1)), "Class": but(p, func(p *api.Packet) { p.Class = 256 }),
		"Options": but(p, options(3)), "Offset 4": but(p, at(4)), "ID": but(p, func(p *api.Packet) { p.ID = 65536 }),
		"Cut of version 4": but(p, cut), "Exts of version 4": but(p, exts(8)), "Options of version 6": but(p6, options(4)),
		"five Exts": but(p6, exts(8, 8, 8, 8, 8)), "Flow": but(p6, func(p *api.Packet) { p.Flow = 1 << 20 }),
		"from none": but(p, src(api.Addr{})), "to none": but(p, dst(api.Addr{})),
		"from a group": but(p, src(wire.V4(224, 0, 0, 1))), "to a group": but(p, dst(wire.V4(224, 0, 0, 1))),
		"from all": but(p, src(wire.V4(255, 255, 255, 255))), "to all": but(p, dst(wire.V4(255, 255, 255, 255))),
		"version 6, from none": but(p6, src(api.Addr{V6: true}), sealed), "version 6, to none": but(p6, dst(api.Addr{V6: true}), sealed),
		"version 6, from a group": but(p6, src(group6()), sealed), "version 6, to a group": but(p6, dst(group6()), sealed),
		"from what may not be": but(p, src(mayNotBe(4))), "to what may not be": but(p, dst(mayNotBe(15))),
		"two versions": but(p, dst(two6)), "two versions, the other way": but(p6, dst(two)),
		"7 bytes": but(p, payload(p.Payload[:7])), "no bytes": but(p, payload("")), "version 6, 7 bytes": but(p6, payload(p6.Payload[:7])),
		"another sum": but(p, payload(p.Payload[:9]+"c")), "version 6, another sum": but(p6, payload(p6.Payload[:9]+"c")),
		"version 6, from another": but(p6, src(addr6(3))), "version 6, to another": but(p6, dst(addr6(3))),
		"65516 bytes": but(p, payload(p.Payload+zeros(65506)), sealed), "version 6, 65516 bytes": but(p6, payload(p6.Payload+zeros(65506)), sealed),
	} {
		checkEcho(t, name, q, api.Packet{}, false)
	}
	checkEcho(t, "just below a group", but(p, src(wire.V4(223, 255, 255, 255))), modelPacket(two, wire.V4(223, 255, 255, 255), api.Message{Rest: 1, Body: "ab"}), true)
	six := api.Addr{V6: true, B: [16]byte{0: 254, 15: 1}}
	checkEcho(t, "version 6, just below a group", but(p6, dst(six), sealed), modelPacket(six, one6, api.Message{Type: 129, Rest: 1, Body: "ab"}), true)
}

func group6() api.Addr { return api.Addr{V6: true, B: [16]byte{0: 255, 1: 2, 15: 1}} }

func TestEchoOfEachType(t *testing.T) {
	for typ := range 256 {
		for _, code := range []int{0, 1, 8, 128, 255} {
			_, ok := Echo(with4(typ, code, 1, "ab"))
			check(t, fmt.Sprint("version 4: ", typ, ", ", code), ok, typ == 8 && code == 0)
			_, ok = Echo(with6(typ, code, 1, "ab"))
			check(t, fmt.Sprint("version 6: ", typ, ", ", code), ok, typ == 128 && code == 0)
		}
	}
}

// P15.3

func TestProblemsOfTheTable(t *testing.T) {
	rows := map[int][2]api.Message{
		NoPort:  {{Type: 3, Code: 3}, {Type: 1, Code: 4}},
		NoRoute: {{Type: 3, Code: 1}, {Type: 1, Code: 0}},
		TooOld:  {{Type: 11, Code: 0}, {Type: 3, Code: 0}},
		TooBig:  {{Type: 3, Code: 4}, {Type: 2, Code: 0}},
		TooLate: {{Type: 11, Code: 1}, {Type: 3, Code: 1}},
		NoProto: {{Type: 3, Code: 2}, {Type: 4, Code: 1, Rest: 6}},
	}
	router, router6 := wire.V4(10, 9, 9, 9), addr6(9)
	for kind, row := range rows {
		for _, mtu := range []int{0, 1, 576, 1280, 1500, 65535} {
			row := row
			if kind == TooBig {
				row[0].Rest, row[1].Rest = uint32(mtu), uint32(mtu)
			}
			p, p6 := whole(100), whole6(100)
			b, _ := ip.Build(p)
			row[0].Body = b[:28]
			row[1].Body, _ = ip.Build(p6)
			checkProblem(t, fmt.Sprint("kind ", kind), kind, router, p, mtu, modelPacket(router, one, row[0]), true)
			checkProblem(t, fmt.Sprint("kind ", kind, " of version 6"), kind, router6, p6, mtu, modelPacket(router6, one6, row[1]), true)
		}
	}
}

func TestWhatAProblemHasOfThePacket(t *testing.T) {
	for _, c := range []struct {
		p    api.Packet
		size int
	}{
		{whole(0), 20}, {whole(1), 21}, {whole(7), 27}, {whole(8), 28}, {whole(9), 28}, {whole(65515), 28},
		{but(whole(3), options(4)), 27}, {but(whole(8), options(4)), 32}, {but(whole(9), options(40)), 68}, {but(whole(65475), options(40)), 68},
		{but(whole(16), more), 28},
		{whole6(0), 40}, {whole6(1), 41}, {whole6(1191), 1231}, {whole6(1192), 1232}, {whole6(1193), 1232}, {whole6(65535), 1232},
		{but(whole6(5), exts(8, 16)), 69}, {but(whole6(1200), exts(8, 16)), 1232}, {but(whole6(5), exts(2048)), 1232},
		{but(whole6(5), cut), 53}, {but(whole6(16), cut, more), 64},
	} {
		b, _ := ip.Build(c.p)
		from := two
		if c.p.Src.V6 {
			from = two6
		}
		q, ok := Problem(NoRoute, from, c.p, 0)
		m, errno := Parse(q.Src, q.Dst, q.Payload)
		check(t, brief(c.p), fmt.Sprint(ok, int(errno), len(m.Body)), fmt.Sprint("true 0 ", c.size))
		check(t, brief(c.p)+": the first bytes", strings.HasPrefix(b, m.Body), true)
		check(t, brief(c.p)+": the answer may be", ip.Right(q), true)
		check(t, brief(c.p)+": it goes by each path", !q.Src.V6 && ip.Size(q) <= 576 || q.Src.V6 && ip.Size(q) <= 1280, true)
	}
}

func TestProblemOfWrongThings(t *testing.T) {
	for _, p := range []api.Packet{whole(20), whole6(20)} {
		from, other := two, two6
		none, group := api.Addr{}, wire.V4(224, 0, 0, 0)
		if p.Src.V6 {
			from, other = other, from
			none, group = api.Addr{V6: true}, group6()
		}
		refused := func(what string, kind int, from api.Addr, p api.Packet, mtu int) {
			t.Helper()
			checkProblem(t, what, kind, from, p, mtu, api.Packet{}, false)
		}
		for _, kind := range []int{math.MinInt, -1, 0, 7, 8, 256, 257, 1<<32 + 1, math.MaxInt} {
			refused(fmt.Sprint("kind ", kind), kind, from, p, 0)
		}
		for kind := NoPort; kind <= NoProto; kind++ {
			for _, mtu := range []int{math.MinInt, -65535, -1, 65536, 65537, 1 << 32, 1<<32 + 1500, math.MaxInt} {
				refused(fmt.Sprint("kind ", kind, ", mtu ", mtu), kind, from, p, mtu)
			}
			refused("from another version", kind, other, p, 0)
			refused("from none", kind, none, p, 0)
			refused("from a group", kind, group, p, 0)
			refused("from what may not be", kind, mayNotBe(9), p, 0)
			refused("a later piece", kind, from, but(p, cutIf6, at(8)), 0)
			refused("a later piece, More", kind, from, but(p, cutIf6, at(65528), more), 0)
			refused("of none", kind, from, but(p, src(none)), 0)
			refused("of a group", kind, from, but(p, src(group)), 0)
			refused("to a group", kind, from, but(p, dst(group)), 0)
			refused("Hop 256", kind, from, but(p, hop(256)), 0)
			refused("Proto 256", kind, from, but(p, proto(256)), 0)
			refused("Offset -8", kind, from, but(p, cutIf6, at(-8)), 0)
			refused("two versions", kind, from, but(p, dst(other)), 0)
			refused("two versions, the other way", kind, from, but(p, src(other)), 0)
			refused("of what may not be", kind, from, but(p, src(mayNotBe(4))), 0)
			refused("to what may not be", kind, from, but(p, dst(mayNotBe(4))), 0)
			q, ok := Problem(kind, from, but(p, dst(none)), 0)
			check(t, "to none", fmt.Sprint(ok, q.Dst == p.Src, q.Src == from), "true true true")
		}
	}
	for _, c := range []struct {
		from api.Addr
		p    api.Packet
		fits bool
	}{
		{two, whole(65515), true}, {two, whole(65516), false}, {two, whole(1 << 20), false},
		{two, but(whole(65475), options(40)), true}, {two, but(whole(65476), options(40)), false},
		{two6, whole6(65535), true}, {two6, whole6(65536), false}, {two6, whole6(1 << 20), false},
		{two6, but(whole6(65527), cut), true}, {two6, but(whole6(65528), cut), false},
		{two6, but(whole6(65519), exts(16)), true}, {two6, but(whole6(65520), exts(16)), false},
	} {
		_, ok := Problem(NoPort, c.from, c.p, 0)
		check(t, "it fits: "+brief(c.p), ok, c.fits)
	}
}

func cutIf6(p *api.Packet) {
	if p.Src.V6 {
		cut(p)
	}
}

func TestProblemOfEachType(t *testing.T) {
	for typ := range 256 {
		first := string([]byte{byte(typ)})
		for _, p := range []api.Packet{whole(0), whole6(0)} {
			from, own, errors := two, 1, typ == 3 || typ == 4 || typ == 5 || typ == 11 || typ == 12
			if p.Src.V6 {
				from, own, errors = two6, 58, typ < 128
			}
			for _, rest := range []string{"", "\x00", text(40)} { // whether it is a message at all isn't asked
				p.Payload = first + rest
				p.Proto = own
				_, ok := Problem(TooOld, from, p, 0)
				check(t, fmt.Sprint("of ICMP: ", brief(p)), ok, !errors)
				_, ok = Problem(TooOld, from, but(p, cutIf6, more), 0)
				check(t, fmt.Sprint("a first piece: ", brief(p)), ok, !errors)
				p.Proto = 59 - own
				_, ok = Problem(TooOld, from, p, 0)
				check(t, fmt.Sprint("of the other version's ICMP: ", brief(p)), ok, true)
				p.Proto = 17
				_, ok = Problem(TooOld, from, p, 0)
				check(t, fmt.Sprint("of UDP: ", brief(p)), ok, true)
			}
			p.Proto, p.Payload = own, ""
			checkProblem(t, "of no bytes", TooOld, from, p, 0, api.Packet{}, false)
			p.Proto = 17
			_, ok := Problem(TooOld, from, p, 0)
			check(t, "of no bytes of UDP", ok, true)
		}
	}
}

// P15.4

func TestTold(t *testing.T) {
	x, x6 := wire.V4(198, 51, 100, 7), addr6(77)
	b, _ := ip.Build(but(whole(100), dst(x)))
	b6, _ := ip.Build(but(whole6(100), dst(x6), exts(24)))
	for rest, mtu := range map[uint32]int{0: 0, 1: 1, 1400: 1400, 65535: 65535, 65536: 0, 65537: 1, 0x12340500: 1280, math.MaxUint32: 65535} {
		for _, size := range []int{20, 21, 28, 120} {
			checkTold(t, "version 4", with4(3, 4, rest, b[:size]), x, mtu, true)
		}
		for _, size := range []int{40, 41, 48, 164} {
			checkTold(t, "version 6", with6(2, 0, rest, b6[:size]), x6, mtu, true)
		}
	}
	p, p6 := with4(3, 4, 1400, b), with6(2, 0, 1400, b6)
	for _, change := range []func(p *api.Packet){hop(0), options(40), src(api.Addr{}), dst(wire.V4(224, 0, 0, 1)), func(p *api.Packet) { p.Still = true }} {
		checkTold(t, "whatever else is there", but(p, change), x, 1400, true)
	}
	for _, change := range []func(p *api.Packet){hop(0), exts(8, 24), cut, src(api.Addr{V6: true}), dst(group6())} {
		checkTold(t, "whatever else is there, of version 6", but(p6, change, sealed), x6, 1400, true)
	}
	// of the bytes only the version and Dst are asked
	for n := range 16 {
		checkTold(t, "the second half byte", with4(3, 4, 1400, string([]byte{byte(4<<4 + n)})+b[1:20]), x, 1400, true)
		checkTold(t, "the second half byte", with6(2, 0, 1400, string([]byte{byte(6<<4 + n)})+b6[1:40]), x6, 1400, true)
	}
	checkTold(t, "other bytes", with4(3, 4, 1400, "\x40"+zeros(15)+wire.Bytes(x)), x, 1400, true)
	checkTold(t, "other bytes", with6(2, 0, 1400, "\x60"+zeros(23)+wire.Bytes(x6)), x6, 1400, true)
}

func TestNothingTold(t *testing.T) {
	b, _ := ip.Build(whole(100))
	b6, _ := ip.Build(whole6(100))
	p, p6 := with4(3, 4, 1400, b), with6(2, 0, 1400, b6)
	for name, q := range map[string]api.Packet{
		"zero": {}, "of version 6, zero": {Src: api.Addr{V6: true}, Dst: api.Addr{V6: true}},
		"More": but(p, more), "Offset": but(p, at(8)), "Cut and More": but(p6, cut, more), "Cut and Offset": but(p6, cut, at(8)),
		"Proto 58": but(p, proto(58)), "Proto 17": but(p, proto(17)), "version 6, Proto 1": but(p6, proto(1)), "version 6, Proto 17": but(p6, proto(17)),
		"Hop": but(p, hop(256)), "Options": but(p, options(3)), "Offset 4": but(p, at(4)), "Cut of version 4": but(p, cut), "five Exts": but(p6, exts(8, 8, 8, 8, 8)),
		"from what may not be": but(p, src(mayNotBe(4))), "to what may not be": but(p, dst(mayNotBe(15))),
		"two versions": but(p, dst(two6)), "two versions, the other way": but(p6, dst(two)),
		"another sum": but(p, payload(p.Payload+"c")), "version 6, another sum": but(p6, payload(p6.Payload+"c")), "version 6, from another": but(p6, src(addr6(3))),
		"no Body": with4(3, 4, 1400, ""), "19 bytes": with4(3, 4, 1400, b[:19]), "version 6, no Body": with6(2, 0, 1400, ""), "version 6, 39 bytes": with6(2, 0, 1400, b6[:39]),
		"bytes of version 6": with4(3, 4, 1400, b6), "version 6, bytes of version 4": with6(2, 0, 1400, b),
		"7 bytes": but(p, payload(p.Payload[:7])), "no bytes": but(p, payload("")),
	} {
		checkTold(t, name, q, api.Addr{}, 0, false)
	}
	for n := range 16 {
		_, _, ok := Told(with4(3, 4, 1400, string([]byte{byte(n<<4 + 5)})+b[1:]))
		check(t, fmt.Sprint("the first half byte ", n), ok, n == 4)
		_, _, ok = Told(with6(2, 0, 1400, string([]byte{byte(n << 4)})+b6[1:]))
		check(t, fmt.Sprint("version 6, the first half byte ", n), ok, n == 6)
	}
	for typ := range 256 {
		for code := range 6 {
			_, _, ok := Told(with4(typ, code, 1400, b))
			check(t, fmt.Sprint("version 4: ", typ, ", ", code), ok, typ == 3 && code == 4)
			_, _, ok = Told(with6(typ, code, 1400, b6))
			check(t, fmt.Sprint("version 6: ", typ, ", ", code), ok, typ == 2 && code == 0)
		}
	}
}

// P15.7

func TestMessagesFollow(t *testing.T) {
	r := rand.New(rand.NewPCG(15, 1))
	for range 5000 {
		m := api.Message{Type: r.IntN(256), Code: r.IntN(256), Rest: r.Uint32() >> r.IntN(32), Body: drawnText(r, r.IntN(90))}
		src, dst := drawnAddress(r), drawnAddress(r)
		want, wantErrno := modelBuild(src, dst, m)
		checkBuild(t, "drawn", src, dst, m, want, wantErrno)
		if wantErrno == api.OK {
			checkParse(t, "of Build", src, dst, want, m, api.OK)
		}
		b := drawnText(r, r.IntN(40))
		wantM, wantErrno := modelParse(src, dst, b)
		checkParse(t, "drawn bytes", src, dst, b, wantM, wantErrno)
	}
}

func TestPacketsFollow(t *testing.T) {
	r := rand.New(rand.NewPCG(15, 2))
	echoes, problems, told := 0, 0, 0
	for range 30000 {
		p, from, kind, mtu := drawnPacket(r), drawnAddress(r), r.IntN(8), r.IntN(1<<16+10)-5
		isEcho, isProblem, isTold := asModel(t, kind, from, p, mtu)
		echoes, problems, told = echoes+b2i(isEcho), problems+b2i(isProblem), told+b2i(isTold)
		if isEcho {
			q, _ := Echo(p)
			checkEcho(t, "of a reply", q, api.Packet{}, false)
			check(t, "the reply may be", ip.Right(q), true)
		}
		if isProblem {
			q, _ := Problem(kind, from, p, mtu)
			checkProblem(t, "of a problem", 1+r.IntN(6), p.Dst, q, mtu, api.Packet{}, false)
			checkProblem(t, "of a problem", 1+r.IntN(6), from, q, 0, api.Packet{}, false)
			q, _ = Problem(TooBig, from, p, mtu)
			checkTold(t, "of a problem", q, p.Dst, mtu, true)
		}
	}
	if echoes < 2000 || problems < 2000 || told < 1000 {
		t.Errorf("%d echoes, %d problems, %d told: too few to tell anything", echoes, problems, told)
	}
}

func b2i(b bool) int {
	if b {
		return 1
	}
	return 0
}

// drawnAddress is mostly that of a host; some are none's, a group's, or may not be.
func drawnAddress(r *rand.Rand) api.Addr {
	a := api.Addr{V6: r.IntN(2) == 0, B: [16]byte{0: 10, 3: byte(r.IntN(4))}}
	switch r.IntN(30) {
	case 0:
		a.B = [16]byte{}
	case 1:
		a.B[0] = 255
	case 2:
		a.B[0] = 224
	case 3:
		a.B[15] = 1
	}
	return a
}

// drawnPacket is mostly one of ICMP that may be, of a Type that is asked for.
func drawnPacket(r *rand.Rand) api.Packet {
	p := with4(8, 0, r.Uint32(), drawnText(r, r.IntN(50)))
	p.Src, p.Dst = drawnAddress(r), drawnAddress(r)
	if r.IntN(20) > 0 {
		p.Dst.V6 = p.Src.V6
	}
	types, quoted := []int{8, 3, 0, 11, 13}, whole(r.IntN(40))
	if p.Src.V6 {
		p.Proto, p.ID = 58, 0
		types, quoted = []int{128, 2, 129, 1, 130}, whole6(r.IntN(1300))
	}
	b := []byte(p.Payload)
	b[0] = byte(types[min(r.IntN(7), 4)])
	if b[0] == 3 && !p.Src.V6 {
		b[1] = 4
	}
	if r.IntN(2) == 0 {
		body, _ := ip.Build(quoted)
		b = append(b[:8], body[:r.IntN(len(body)+1)]...)
	}
	p.Payload = string(b)
	sealed(&p)
	if r.IntN(3) == 0 {
		spoil(r, &p)
	}
	return p
}

func spoil(r *rand.Rand, p *api.Packet) {
	switch r.IntN(12) {
	case 0:
		p.More = true
	case 1:
		p.Offset = 8 * r.IntN(3)
	case 2:
		cut(p)
	case 3:
		cut(p)
		p.Offset, p.More = 8*r.IntN(2), r.IntN(2) == 0
	case 4:
		p.Proto = []int{1, 6, 17, 58, 60}[r.IntN(5)]
	case 5:
		p.Hop = r.IntN(400) - 50
	case 6:
		p.Options = text(r.IntN(50))
	case 7:
		exts(8 * (1 + r.IntN(4)))(p)
	case 8:
		p.Payload = p.Payload[:r.IntN(len(p.Payload))]
	case 9:
		b := []byte(p.Payload)
		b[r.IntN(len(b))] ^= 1 << r.IntN(8)
		p.Payload = string(b)
	case 10:
		if r.IntN(10) == 0 { // long ones take long
			p.Payload += strings.Repeat("\x00", 65400+r.IntN(300))
			sealed(p)
		}
	case 11:
		b := []byte(p.Payload)
		b[1] = byte(r.IntN(6))
		p.Payload = string(b)
		sealed(p)
	}
}
