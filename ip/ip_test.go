package ip

import (
	"encoding/hex"
	"fmt"
	"math"
	"math/rand/v2"
	"reflect"
	"slices"
	"strings"
	"testing"

	"adit/api"
	"adit/wire"
)

func TestExamples(t *testing.T) {
	want := unhex("45 00 00 16 00 01 00 00 40 11 66 d4 0a 00 00 01 0a 00 00 02 68 69")
	checkBuild(t, "the small one", small(), want, api.OK)
	checkParse(t, "and 3 bytes more", want+"abc", small(), api.OK)
	checkParse(t, "first byte 44", "\x44"+want[1:], api.Packet{}, api.ErrLength)
	checkParse(t, "first byte 55", "\x55"+want[1:], api.Packet{}, api.ErrVersion)
	checkParse(t, "19 bytes", want[:19], api.Packet{}, api.ErrShort)
	checkParse(t, "21 bytes", want[:21], api.Packet{}, api.ErrLength)
	for at := range 8 * 20 {
		if at >= 8 && (at < 16 || at >= 32) { // but version and lengths
			checkParse(t, fmt.Sprint("bit ", at), turned(want, at), api.Packet{}, api.ErrCheck)
		}
	}
	check(t, "Size", Size(api.Packet{Src: addr6(1), Dst: addr6(2), Proto: 17, Exts: []api.Ext{{Kind: 60, Body: zeros(14)}}, Cut: true, Payload: "hello"}), 69)
	checkBuild(t, "Proto 60", with(whole6(), func(p *api.Packet) { p.Proto = 60 }), "", api.ErrArg)
	for name, p := range map[string]api.Packet{"version 4": small(), "version 6": cut6()} {
		checkBuild(t, name+", Offset 4", with(p, func(p *api.Packet) { p.Offset = 4 }), "", api.ErrArg)
		checkBuild(t, name+", Hop 256", with(p, func(p *api.Packet) { p.Hop = 256 }), "", api.ErrArg)
	}
}

// P13.1: which packets may be

func TestRightOfNumbers(t *testing.T) {
	far := []int{math.MinInt, math.MinInt32, -1 << 32, -65536, -256, -8, -1}
	for _, c := range []struct {
		name  string
		p     api.Packet
		field func(p *api.Packet) *int
		most  int
	}{
		{"4 Proto", small(), proto, 255}, {"6 Proto", cut6(), proto, 255},
		{"4 Hop", small(), hop, 255}, {"6 Hop", cut6(), hop, 255},
		{"4 Class", small(), class, 255}, {"6 Class", whole6(), class, 255},
		{"4 ID", small(), id, 65535}, {"6 ID", cut6(), id, 4294967295}, {"6 ID, whole", whole6(), id, 0},
		{"4 Flow", small(), flow, 0}, {"6 Flow", whole6(), flow, 1048575},
		{"4 Offset", small(), offset, 65528}, {"6 Offset", cut6(), offset, 65528}, {"6 Offset, whole", whole6(), offset, 0},
	} {
		at := func(n int) api.Packet { return with(c.p, func(p *api.Packet) { *c.field(p) = n }) }
		for _, n := range append(far, c.most+1, c.most+8, c.most+256, c.most+65536, 1<<32+c.most, 1<<40, math.MaxInt-7, math.MaxInt) {
			checkRight(t, fmt.Sprint(c.name, " ", n), at(n), false)
		}
		checkRight(t, fmt.Sprint(c.name, " ", c.most), at(c.most), true)
		if c.name != "6 Proto" {
			checkRight(t, c.name+" 0", at(0), true)
		}
	}
}

func TestRightOfOffsets(t *testing.T) {
	for n := -16; n <= 66000; n++ {
		set := func(p *api.Packet) { p.Offset = n }
		want := n >= 0 && n <= 65528 && n%8 == 0
		if Right(with(small(), set)) != want || Right(with(cut6(), set)) != want || Right(with(whole6(), set)) != (n == 0) {
			t.Fatalf("Offset %d: want %t (whole, of version 6: only 0)", n, want)
		}
	}
}

func TestRightOfProtocols(t *testing.T) {
	for n := range 256 {
		set := func(p *api.Packet) { p.Proto = n }
		checkRight(t, fmt.Sprint("4 Proto ", n), with(small(), set), true)
		checkRight(t, fmt.Sprint("6 Proto ", n), with(whole6(), set), n != 0 && n != 43 && n != 44 && n != 60)
		checkRight(t, fmt.Sprint("6 Proto, cut ", n), with(cut6(), set), n != 0 && n != 43 && n != 44 && n != 60)
	}
}

func TestRightOfOptions(t *testing.T) {
	for n := range 600 {
		set := func(p *api.Packet) { p.Options = zeros(n) }
		checkRight(t, fmt.Sprint("4 Options ", n), with(small(), set), n <= 40 && n%4 == 0)
		checkRight(t, fmt.Sprint("6 Options ", n), with(whole6(), set), n == 0)
	}
}

func TestRightOfFlags(t *testing.T) {
	more, still, cut := func(p *api.Packet) { p.More = true }, func(p *api.Packet) { p.Still = true }, func(p *api.Packet) { p.Cut = true }
	checkRight(t, "4 More", with(small(), more), true)
	checkRight(t, "4 Still", with(small(), still), true)
	checkRight(t, "4 both", with(small(), more, still), true)
	checkRight(t, "4 Cut", with(small(), cut), false)
	checkRight(t, "6 More, whole", with(whole6(), more), false)
	checkRight(t, "6 Still, whole", with(whole6(), still), false)
	checkRight(t, "6 Still, cut", with(cut6(), still), false)
	checkRight(t, "6 Cut and nothing else", with(whole6(), cut), true)
	checkRight(t, "6 More, cut", with(whole6(), cut, more), true)
}

func TestRightOfExts(t *testing.T) {
	body := zeros(6)
	for kind := -300; kind < 600; kind++ {
		isKind := kind == 0 || kind == 43 || kind == 60
		for place := range 4 {
			exts := []api.Ext{{Kind: 60, Body: body}, {Kind: 43, Body: body}, {Kind: 60, Body: body}, {Kind: 43, Body: body}}
			exts[place].Kind = kind
			checkRight(t, fmt.Sprint("kind ", kind, " at ", place), withExts(whole6(), exts...), isKind && (kind != 0 || place == 0))
		}
	}
	for _, kind := range []int{math.MinInt, -1 << 32, 1 << 32, 1<<32 + 43, math.MaxInt} {
		checkRight(t, fmt.Sprint("kind ", kind), withExts(whole6(), api.Ext{Kind: kind, Body: body}), false)
	}
	for _, many := range []int{0, 1, 2, 3, 4, 5, 6, 100, 256, 260, 1 << 16} {
		exts := slices.Repeat([]api.Ext{{Kind: 60, Body: body}}, many)
		checkRight(t, fmt.Sprint(many, " of them"), withExts(cut6(), exts...), many <= 4)
		checkRight(t, fmt.Sprint(many, " of them, version 4"), withExts(small(), exts...), many == 0)
	}
}

func TestRightOfBodies(t *testing.T) {
	for n := range 4200 {
		want := n%8 == 6 && n <= 2046
		for place := range 4 {
			exts := slices.Repeat([]api.Ext{{Kind: 43, Body: zeros(14)}}, 4)
			exts[place].Body = zeros(n)
			if Right(withExts(whole6(), exts...)) != want {
				t.Fatalf("a body of %d bytes at %d: want %t", n, place, want)
			}
		}
	}
}

func TestRightOfAddresses(t *testing.T) {
	ends := func(src, dst api.Addr) func(p *api.Packet) {
		return func(p *api.Packet) { p.Src, p.Dst = src, dst }
	}
	four, six := wire.V4(1, 2, 3, 4), addr6(9)
	plain := api.Packet{Proto: 6}
	checkRight(t, "4 to 4", with(plain, ends(four, four)), true)
	checkRight(t, "6 to 6", with(plain, ends(six, six)), true)
	checkRight(t, "4 to 6", with(plain, ends(four, six)), false)
	checkRight(t, "6 to 4", with(plain, ends(six, four)), false)
	checkRight(t, "nobody to many", with(plain, ends(api.Addr{}, wire.V4(255, 255, 255, 255))), true)
	for at := 4; at < 16; at++ {
		none := four
		none.B[at] = 1
		checkRight(t, "the source may not be", with(plain, ends(none, four)), false)
		checkRight(t, "the destination may not be", with(plain, ends(four, none)), false)
		checkRight(t, "both may not be", with(plain, ends(none, none)), false)
		checkRight(t, "neither they nor the versions", with(plain, ends(none, six)), false)
	}
	checkRight(t, "the zero packet", api.Packet{}, true)
}

// P13.1: their bytes

func TestBuildOfVersion4(t *testing.T) {
	known := api.Packet{Src: wire.V4(192, 168, 0, 1), Dst: wire.V4(192, 168, 0, 199), Proto: 17, Hop: 64, Still: true, Payload: zeros(95)}
	checkBuild(t, "a known header", known, unhex("4500 0073 0000 4000 4011 b861 c0a8 0001 c0a8 00c7")+zeros(95), api.OK)
	zero := api.Packet{}
	checkBuild(t, "the zero packet", zero, unhex("4500 0014 0000 0000 0000 baeb 0000 0000 0000 0000"), api.OK)
	full := api.Packet{
		Src: wire.V4(1, 2, 3, 4), Dst: wire.V4(5, 6, 7, 8), Proto: 250, Hop: 251, Class: 252,
		ID: 0xabcd, Offset: 65528, More: true, Still: true, Options: "\x01\x02\x03\x04\x05\x06\x07\x08", Payload: "xyz",
	}
	checkBuild(t, "all of it", full, unhex("47fc 001f abcd 7fff fbfa 6ff4 0102 0304 0506 0708 0102 0304 0506 0708")+"xyz", api.OK)
	for _, c := range []struct {
		offset      int
		more, still bool
		want        string
	}{
		{0, false, false, "0000"}, {8, false, false, "0001"}, {65528, false, false, "1fff"}, {0, true, false, "2000"},
		{0, false, true, "4000"}, {16, true, true, "6002"}, {2048, true, false, "2100"}, {65528, false, true, "5fff"},
	} {
		b, errno := Build(with(small(), func(p *api.Packet) { p.Offset, p.More, p.Still = c.offset, c.more, c.still }))
		check(t, "errno", errno, api.OK)
		check(t, "bits", hex.EncodeToString([]byte(b[6:8])), c.want)
	}
	for many := 0; many <= 40; many += 4 {
		b, _ := Build(with(small(), func(p *api.Packet) { p.Options = zeros(many) }))
		check(t, "the first byte", int(b[0]), 0x45+many/4)
		check(t, "length", len(b), 22+many)
	}
}

func TestBuildOfVersion6(t *testing.T) {
	ends := unhex("fd00 0000 0000 0000 0000 0000 0000 0001 fd00 0000 0000 0000 0000 0000 0000 0002")
	checkBuild(t, "whole", whole6(), unhex("6000 0000 0005 1140")+ends+"hello", api.OK)
	checkBuild(t, "Class and Flow", with(whole6(), func(p *api.Packet) { p.Class, p.Flow = 0xab, 0xcdef1 }), unhex("6abc def1 0005 1140")+ends+"hello", api.OK)
	checkBuild(t, "the greatest Class", with(whole6(), func(p *api.Packet) { p.Class = 255 }), unhex("6ff0 0000 0005 1140")+ends+"hello", api.OK)
	checkBuild(t, "the greatest Flow", with(whole6(), func(p *api.Packet) { p.Flow = 1048575 }), unhex("600f ffff 0005 1140")+ends+"hello", api.OK)
	checkBuild(t, "cut", cut6(), unhex("6000 0000 000d 2c40")+ends+unhex("1100 0039 0000 0007")+"hello", api.OK)
	last := with(cut6(), func(p *api.Packet) { p.Offset, p.ID, p.More = 65528, 0xfedcba98, false })
	checkBuild(t, "cut, the last", last, unhex("6000 0000 000d 2c40")+ends+unhex("1100 fff8 fedc ba98")+"hello", api.OK)
	exts := []api.Ext{{Kind: 0, Body: "abcdef"}, {Kind: 43, Body: zeros(14)}, {Kind: 60, Body: "ghijkl"}, {Kind: 43, Body: zeros(2046)}}
	checkBuild(t, "one Ext", withExts(whole6(), exts[:1]...), unhex("6000 0000 000d 0040")+ends+unhex("1100")+"abcdefhello", api.OK)
	heads := unhex("2b00") + "abcdef" + unhex("3c01") + zeros(14) + unhex("2b00") + "ghijkl"
	checkBuild(t, "four Exts", withExts(whole6(), exts...), unhex("6000 0000 0825 0040")+ends+heads+unhex("11ff")+zeros(2046)+"hello", api.OK)
	checkBuild(t, "four Exts, cut", withExts(cut6(), exts...), unhex("6000 0000 082d 0040")+ends+heads+unhex("2cff")+zeros(2046)+unhex("1100 0039 0000 0007")+"hello", api.OK)
	checkBuild(t, "nothing behind", with(whole6(), func(p *api.Packet) { p.Payload, p.Proto = "", 59 }), unhex("6000 0000 0000 3b40")+ends, api.OK)
}

func TestBuildAtTheBound(t *testing.T) {
	exts := []api.Ext{{Kind: 0, Body: zeros(2046)}, {Kind: 60, Body: zeros(6)}}
	for _, c := range []struct {
		name string
		p    api.Packet
		most int
	}{
		{"version 4", small(), 65515},
		{"version 4, Options", with(small(), func(p *api.Packet) { p.Options = zeros(40) }), 65475},
		{"version 4, an Offset", with(small(), func(p *api.Packet) { p.Offset = 65528 }), 65515},
		{"version 6", whole6(), 65535},
		{"version 6, cut", cut6(), 65527},
		{"version 6, Exts", withExts(whole6(), exts...), 65535 - 2048 - 8},
		{"version 6, Exts, cut", withExts(cut6(), exts...), 65535 - 2048 - 8 - 8},
	} {
		p := c.p
		for _, many := range []int{c.most - 1, c.most} {
			p.Payload = strings.Repeat("x", many)
			want, _ := modelBuild(p)
			checkBuild(t, c.name, p, want, api.OK)
			checkParse(t, c.name, want+"behind", p, api.OK)
		}
		for _, many := range []int{c.most + 1, c.most + 2, 65536, 65536 + 20, 1 << 17, 1<<20 + 5} {
			p.Payload = zeros(many)
			checkBuild(t, fmt.Sprint(c.name, ", ", many, " bytes"), p, "", api.ErrBig)
			check(t, c.name+", Size of what does not fit", Size(p), modelSize(p))
			p.Hop = -1
			checkBuild(t, c.name+", neither may it be", p, "", api.ErrArg)
			check(t, c.name+", Size of what may not be", Size(p), 0)
			p.Hop = 1
		}
	}
}

// P13.2

func TestParseOfShortBytes(t *testing.T) {
	checkParse(t, "no byte", "", api.Packet{}, api.ErrShort)
	for first := range 256 {
		for _, many := range []int{1, 2, 19, 20, 39, 40, 100} {
			b := string([]byte{byte(first)}) + zeros(many-1)
			switch version := first >> 4; {
			case version != 4 && version != 6:
				checkParse(t, fmt.Sprint(many, " bytes of version ", version), b, api.Packet{}, api.ErrVersion)
			case many < 20 || version == 6 && many < 40:
				checkParse(t, fmt.Sprint(many, " bytes of version ", version), b, api.Packet{}, api.ErrShort)
			}
		}
	}
	for _, p := range []api.Packet{small(), whole6(), cut6(), withExts(cut6(), api.Ext{Kind: 0, Body: zeros(14)})} {
		b, _ := Build(p)
		least := map[bool]int{false: 20, true: 40}[p.Src.V6]
		for many := 1; many < len(b); many++ {
			want := api.ErrLength
			if many < least {
				want = api.ErrShort
			}
			checkParse(t, fmt.Sprint("the first ", many), b[:many], api.Packet{}, want)
		}
	}
}

func TestParseOfLengths4(t *testing.T) {
	for fours := range 16 {
		for _, size := range []int{0, 1, 19, 20, 21, 24, 40, 59, 60, 61, 79, 80, 81, 256, 65535} {
			for _, many := range []int{20, 21, 24, 40, 59, 60, 80} {
				b := summed(string([]byte{byte(0x40 + fours), 0, byte(size >> 8), byte(size)}) + zeros(many-4))
				head := 4 * fours
				wrong := head < 20 || head > many || size < head || size > many
				got, errno := Parse(b)
				what := fmt.Sprintf("%d bytes, a header of %d, a size of %d", many, head, size)
				check(t, what, errno == api.ErrLength, wrong)
				if !wrong {
					check(t, what, errno, api.OK)
					check(t, what+": Options", len(got.Options), head-20)
					check(t, what+": Payload", len(got.Payload), size-head)
				}
			}
		}
	}
}

func TestParseOfChecksums(t *testing.T) {
	p := with(small(), func(p *api.Packet) { p.Options = "\x01\x02\x03\x04" })
	b, _ := Build(p)
	right := 0
	for sum := range 65536 {
		got, errno := Parse(b[:10] + string([]byte{byte(sum >> 8), byte(sum)}) + b[12:])
		if errno == api.OK {
			right++
			check(t, "the one", Same(got, p), true)
		} else if errno != api.ErrCheck || !isZero(got) {
			t.Fatalf("checksum %d: %v %v", sum, got, errno)
		}
	}
	check(t, "checksums that are right", right, 1)
	for at := range 8 * len(b) {
		if at < 8 || at >= 16 && at < 32 { // version and lengths
			continue
		}
		_, errno := Parse(turned(b, at))
		check(t, fmt.Sprint("bit ", at), errno == api.ErrCheck, at < 8*24)
		check(t, fmt.Sprint("bit ", at), errno == api.OK, at >= 8*24)
	}
}

// A sum over all of the header takes 65535 and 0 for one; only 0 is what Build tells.
func TestParseOfChecksumZero(t *testing.T) {
	p := with(small(), func(p *api.Packet) { p.ID = 0 })
	b, _ := Build(p)
	p.ID = modelSum(b[:10] + "\x00\x00" + b[12:20])
	b, _ = Build(p)
	check(t, "the checksum", b[10:12], "\x00\x00")
	checkParse(t, "0", b, p, api.OK)
	checkParse(t, "65535", b[:10]+"\xff\xff"+b[12:], api.Packet{}, api.ErrCheck)
}

func TestParseOfTheBitAbove(t *testing.T) {
	for n := range 65536 {
		b, _ := Build(small())
		b = summed(b[:6] + string([]byte{byte(n >> 8), byte(n)}) + b[8:])
		p, errno := Parse(b)
		if n >= 32768 {
			if errno != api.ErrForm || !isZero(p) {
				t.Fatalf("bits %04x: %v %v", n, p, errno)
			}
			continue
		}
		want := with(small(), func(p *api.Packet) { p.Still, p.More, p.Offset = n>>14 == 1, n>>13&1 == 1, n%8192*8 })
		if errno != api.OK || !Same(p, want) {
			t.Fatalf("bits %04x: %v %v", n, p, errno)
		}
	}
}

func TestParseOrder4(t *testing.T) {
	b, _ := Build(small())
	spoiled := b[:6] + "\x80" + b[7:] // the bit above, and so another checksum
	checkParse(t, "checksum and form", spoiled, api.Packet{}, api.ErrCheck)
	checkParse(t, "form alone", summed(spoiled), api.Packet{}, api.ErrForm)
	checkParse(t, "length, checksum and form", spoiled[:21], api.Packet{}, api.ErrLength)
	checkParse(t, "short, and all of them", "\x44"+spoiled[1:19], api.Packet{}, api.ErrShort)
	checkParse(t, "version, and short", "\x54", api.Packet{}, api.ErrVersion)
}

func TestParseOfLengths6(t *testing.T) {
	head, _ := Build(with(whole6(), func(p *api.Packet) { p.Payload = "" }))
	for _, size := range []int{0, 1, 2, 255, 256, 257, 65534, 65535} {
		b := head[:4] + string([]byte{byte(size >> 8), byte(size)}) + head[6:]
		want := with(whole6(), func(p *api.Packet) { p.Payload = strings.Repeat("x", size) })
		checkParse(t, fmt.Sprint("just ", size), b+strings.Repeat("x", size), want, api.OK)
		checkParse(t, fmt.Sprint("1 more than ", size), b+strings.Repeat("x", size+1), want, api.OK)
		if size > 0 {
			checkParse(t, fmt.Sprint("1 fewer than ", size), b+strings.Repeat("x", size-1), api.Packet{}, api.ErrLength)
		}
	}
}

func TestParseOfExts(t *testing.T) {
	for _, c := range []struct {
		what  string
		next  int
		bytes string
		want  api.Errno
	}{
		{"none left", 60, "", api.ErrLength},
		{"7 left", 43, "11 00 00 00 00 00 00", api.ErrLength},
		{"7 left of the first kind", 0, "11 00 00 00 00 00 00", api.ErrLength},
		{"8 left", 60, "11 00 00 00 00 00 00 00", api.OK},
		{"8 left of 16", 60, "11 01 00 00 00 00 00 00", api.ErrLength},
		{"15 left of 16", 60, "11 01" + strings.Repeat(" 00", 13), api.ErrLength},
		{"16 left of 16", 60, "11 01" + strings.Repeat(" 00", 14), api.OK},
		{"2047 left of 2048", 60, "11 ff" + strings.Repeat(" 00", 2045), api.ErrLength},
		{"2048 left of 2048", 60, "11 ff" + strings.Repeat(" 00", 2046), api.OK},
		{"0 twice", 0, "00 00 00 00 00 00 00 00 11 00 00 00 00 00 00 00", api.ErrForm},
		{"0 behind 43", 43, "00 00 00 00 00 00 00 00 11 00 00 00 00 00 00 00", api.ErrForm},
		{"0 behind 60, and nothing left", 60, "00 00 00 00 00 00 00 00", api.ErrForm},
		{"43 behind 0, and nothing left", 0, "2b 00 00 00 00 00 00 00", api.ErrLength},
		{"four", 0, "2b 00 00 00 00 00 00 00 3c 00 00 00 00 00 00 00 2b 00 00 00 00 00 00 00 11 00 00 00 00 00 00 00", api.OK},
		{"a fifth one", 0, strings.Repeat("3c 00 00 00 00 00 00 00 ", 4) + "11 00 00 00 00 00 00 00", api.ErrForm},
		{"a fifth one, and nothing left", 60, strings.Repeat("2b 00 00 00 00 00 00 00 ", 4), api.ErrForm},
		{"a fourth one, and nothing left", 60, strings.Repeat("2b 00 00 00 00 00 00 00 ", 3), api.ErrLength},
		{"four and a cut", 60, strings.Repeat("3c 00 00 00 00 00 00 00 ", 3) + "2c 00 00 00 00 00 00 00 11 00 00 00 00 00 00 00", api.OK},
		{"a kind that is none ends them", 60, "33 00 00 00 00 00 00 00 00 00 00 00 00 00 00 00", api.OK},
	} {
		b := behind6(c.next, unhex(c.bytes))
		want, wantErrno := modelParse(b)
		check(t, c.what+", by the model", wantErrno, c.want)
		checkParse(t, c.what, b, want, c.want)
		checkParse(t, c.what+", and more behind the size", b+strings.Repeat("\x3b\x00\x00\x00\x00\x00\x00\x00", 300), want, c.want)
	}
}

func TestParseOfCuts(t *testing.T) {
	right := unhex("11 00 01 01 00 00 00 09") + "hello"
	want := with(whole6(), func(p *api.Packet) { p.Cut, p.Offset, p.More, p.ID = true, 256, true, 9 })
	checkParse(t, "right", behind6(44, right), want, api.OK)
	for many := range 8 { // whatever else is wrong
		checkParse(t, fmt.Sprint(many, " left"), behind6(44, "\x00\xff\xff\xff\xff\xff\xff"[:many]), api.Packet{}, api.ErrLength)
	}
	checkParse(t, "8 left", behind6(44, right[:8]), with(want, func(p *api.Packet) { p.Payload = "" }), api.OK)
	for n := 1; n < 256; n++ {
		checkParse(t, fmt.Sprint("second byte ", n), behind6(44, right[:1]+string([]byte{byte(n)})+right[2:]), api.Packet{}, api.ErrForm)
	}
	for n := range 65536 {
		p, errno := Parse(behind6(44, right[:2]+string([]byte{byte(n >> 8), byte(n)})+right[4:]))
		if n&6 != 0 {
			if errno != api.ErrForm || !isZero(p) {
				t.Fatalf("bits %04x: %v %v", n, p, errno)
			}
		} else if errno != api.OK || p.Offset != n&^7 || p.More != (n&1 == 1) || p.ID != 9 || !p.Cut {
			t.Fatalf("bits %04x: %v %v", n, p, errno)
		}
	}
	for next := range 256 {
		b := behind6(44, string([]byte{byte(next)})+right[1:])
		if next == 0 || next == 43 || next == 44 || next == 60 {
			checkParse(t, fmt.Sprint("next ", next), b, api.Packet{}, api.ErrForm)
		} else {
			checkParse(t, fmt.Sprint("next ", next), b, with(want, func(p *api.Packet) { p.Proto = next }), api.OK)
		}
	}
	greatest := behind6(44, unhex("11 00 ff f8 ff ff ff ff")+"hello")
	checkParse(t, "the greatest", greatest, with(want, func(p *api.Packet) { p.Offset, p.More, p.ID = 65528, false, 4294967295 }), api.OK)
}

func TestParseOfNextHeaders(t *testing.T) {
	for next := range 256 {
		b := behind6(next, zeros(8)+"hello")
		want, wantErrno := modelParse(b)
		checkParse(t, fmt.Sprint("next header ", next), b, want, wantErrno)
		if next != 0 && next != 43 && next != 44 && next != 60 {
			check(t, "no header", wantErrno, api.OK)
		}
	}
}

func TestParsePassesOver(t *testing.T) {
	for _, p := range []api.Packet{small(), whole6(), cut6(), with(small(), func(p *api.Packet) { p.Payload = "" })} {
		b, _ := Build(p)
		for _, behind := range []string{"\x00", "a", "abc", b, zeros(65535), zeros(1 << 20)} {
			checkParse(t, fmt.Sprint(len(behind), " bytes behind"), b+behind, p, api.OK)
		}
	}
}

// P13.3

func TestSize(t *testing.T) {
	check(t, "the zero packet", Size(api.Packet{}), 20)
	check(t, "version 4", Size(small()), 22)
	check(t, "Options", Size(with(small(), func(p *api.Packet) { p.Options = zeros(40) })), 62)
	check(t, "version 6", Size(whole6()), 45)
	check(t, "cut", Size(cut6()), 53)
	check(t, "Exts", Size(withExts(cut6(), api.Ext{Body: zeros(6)}, api.Ext{Kind: 43, Body: zeros(2046)})), 53+8+2048)
	check(t, "far too big", Size(with(small(), func(p *api.Packet) { p.Payload = zeros(1 << 20) })), 1<<20+20)
	check(t, "may not be", Size(with(small(), func(p *api.Packet) { p.Class = 256 })), 0)
	check(t, "of two versions", Size(with(whole6(), func(p *api.Packet) { p.Dst = small().Dst })), 0)
}

func TestSameOfEachField(t *testing.T) {
	for _, p := range []api.Packet{{}, small(), cut6(), withExts(whole6(), api.Ext{Kind: 60, Body: "abcdef"}, api.Ext{Kind: 43, Body: "ghijkl"}), wrong()} {
		check(t, "the same", Same(p, clone(p)), true)
		for i := range reflect.TypeFor[api.Packet]().NumField() {
			name := reflect.TypeFor[api.Packet]().Field(i).Name
			q := clone(p)
			changeValue(reflect.ValueOf(&q).Elem().Field(i))
			check(t, name, Same(p, q), false)
			check(t, name+", the other way", Same(q, p), false)
			check(t, name+", both", Same(q, clone(q)), true)
		}
	}
}

func TestSameOfAddresses(t *testing.T) {
	for _, p := range []api.Packet{small(), whole6()} {
		for at := range 16 {
			q := p
			q.Src.B[at] ^= 128
			check(t, fmt.Sprint("source, byte ", at), Same(p, q), false)
			q = p
			q.Dst.B[at] ^= 1
			check(t, fmt.Sprint("destination, byte ", at), Same(p, q), false)
		}
		q := p
		q.Dst.V6 = !q.Dst.V6
		check(t, "the version alone", Same(p, q), false)
		q.Src, q.Dst = p.Dst, p.Src
		check(t, "turned round", Same(p, q), false)
	}
}

func TestSameOfExts(t *testing.T) {
	a, b := api.Ext{Kind: 60, Body: "abcdef"}, api.Ext{Kind: 43, Body: "ghijkl"}
	lists := [][]api.Ext{nil, {a}, {b}, {a, b}, {b, a}, {a, a}, {a, b, a}, {{Kind: 60, Body: "abcdeg"}}, {{Kind: 61, Body: "abcdef"}}, {{}}, {{}, {}}}
	for i, x := range lists {
		for k, y := range lists {
			check(t, fmt.Sprint("lists ", i, " and ", k), Same(withExts(whole6(), x...), withExts(whole6(), y...)), i == k)
		}
	}
	none, empty := whole6(), whole6()
	none.Exts, empty.Exts = nil, []api.Ext{}
	check(t, "none and empty", Same(none, empty), true)
	check(t, "empty and none", Same(empty, none), true)
}

// P13.4

func TestDrawnPacketsComeBack(t *testing.T) {
	r := rand.New(rand.NewPCG(13, 1))
	for range 20000 {
		p := drawnPacket(r)
		checkRight(t, "drawn", p, true)
		check(t, "Size", Size(p), modelSize(p))
		want, wantErrno := modelBuild(p)
		checkBuild(t, "drawn", p, want, wantErrno)
		if wantErrno != api.OK {
			t.Fatalf("%v: %v", p, wantErrno)
		}
		check(t, "Size of its bytes", Size(p), len(want))
		checkParse(t, "drawn", want, p, api.OK)
		checkParse(t, "drawn, with more behind", want+drawnText(r, r.IntN(100)), p, api.OK)
	}
}

func TestDrawnWrongPackets(t *testing.T) {
	r := rand.New(rand.NewPCG(13, 2))
	right := 0
	for range 20000 {
		p := drawnPacket(r)
		for range 1 + r.IntN(2) {
			spoilPacket(r, &p)
		}
		checkRight(t, fmt.Sprint("spoiled ", p), p, modelRight(p))
		check(t, "Size", Size(p), modelSize(p))
		want, wantErrno := modelBuild(p)
		checkBuild(t, "spoiled", p, want, wantErrno)
		if wantErrno == api.OK {
			right++
			checkParse(t, "spoiled, but it may be", want, p, api.OK)
		}
	}
	checkShare(t, right, 20000)
}

func TestDrawnBytes(t *testing.T) {
	r := rand.New(rand.NewPCG(13, 3))
	told := map[api.Errno]int{}
	for range 60000 {
		b := drawnBytes(r)
		want, wantErrno := modelParse(b)
		checkParse(t, "drawn", b, want, wantErrno)
		told[wantErrno]++
		if wantErrno != api.OK {
			continue
		}
		p, _ := Parse(b)
		checkRight(t, "what Parse tells", p, true)
		built, errno := Build(p)
		check(t, "Build of what Parse tells", errno, api.OK)
		check(t, "the bytes that were read", built, b[:min(Size(p), len(b))])
	}
	for _, errno := range []api.Errno{api.OK, api.ErrShort, api.ErrVersion, api.ErrLength, api.ErrCheck, api.ErrForm} {
		if told[errno] < 300 {
			t.Errorf("only %d of the bytes end by %d: the test says little", told[errno], errno)
		}
	}
}

// R3

func TestMemoryIsNotShared(t *testing.T) {
	p := withExts(cut6(), api.Ext{Kind: 0, Body: "abcdef"}, api.Ext{Kind: 43, Body: "ghijkl"})
	kept := clone(p)
	b, _ := Build(p)
	Size(p)
	Same(p, kept)
	check(t, "what is handed in stays", Same(p, kept), true)
	first, _ := Parse(b)
	second, _ := Parse(b)
	clear(first.Exts)
	_ = append(first.Exts[:1], api.Ext{Kind: 9})
	check(t, "another answer stays", Same(second, kept), true)
	again, _ := Parse(b)
	check(t, "later answers too", Same(again, kept), true)
	clear(p.Exts)
	check(t, "bytes stay", Same(again, kept), true)
}

// What the tests lean on.

func check[V comparable](t *testing.T, what string, got, want V) {
	t.Helper()
	if got != want {
		t.Errorf("%.200s: %#v, want %#v", what, got, want)
	}
}

func checkRight(t *testing.T, what string, p api.Packet, want bool) {
	t.Helper()
	check(t, what+": Right", Right(p), want)
	check(t, what+": the model", modelRight(p), want)
	check(t, what+": Size above 0", Size(p) > 0, want)
	if _, errno := Build(p); (errno == api.ErrArg) == want {
		t.Errorf("%s: Build: %v", what, errno)
	}
}

func checkBuild(t *testing.T, what string, p api.Packet, want string, wantErrno api.Errno) {
	t.Helper()
	b, errno := Build(p)
	if b != want || errno != wantErrno {
		t.Errorf("%s: Build: %.200x %d, want %.200x %d", what, b, errno, want, wantErrno)
	}
}

// checkParse asks of an error that the packet beside it is zero.
func checkParse(t *testing.T, what, b string, want api.Packet, wantErrno api.Errno) {
	t.Helper()
	p, errno := Parse(b)
	if errno != wantErrno || !equal(p, want) || errno != api.OK && !isZero(p) {
		t.Errorf("%s: Parse of %.200x: %.200s %d, want %.200s %d", what, b, fmt.Sprint(p), errno, fmt.Sprint(want), wantErrno)
	}
	if !Same(p, want) {
		t.Errorf("%s: Same says that Parse told another packet", what)
	}
}

func checkShare(t *testing.T, some, all int) {
	t.Helper()
	if some < all/10 || some > all*9/10 {
		t.Errorf("%d of %d: the test says little", some, all)
	}
}

// equal goes another way than Same; an empty list is none.
func equal(a, b api.Packet) bool {
	if len(a.Exts) == 0 {
		a.Exts = nil
	}
	if len(b.Exts) == 0 {
		b.Exts = nil
	}
	return reflect.DeepEqual(a, b)
}

func isZero(p api.Packet) bool { return equal(p, api.Packet{}) }

func zeros(n int) string { return string(make([]byte, n)) }

func unhex(s string) string {
	b, err := hex.DecodeString(strings.ReplaceAll(s, " ", ""))
	if err != nil {
		panic(err)
	}
	return string(b)
}

// turned are bytes with one bit turned.
func turned(b string, at int) string {
	c := []byte(b)
	c[at/8] ^= 128 >> (at % 8)
	return string(c)
}

// summed is a packet of version 4 with the checksum that it must have, as far as its header is there.
func summed(b string) string {
	head := max(20, min(4*int(b[0]&15), len(b)&^3))
	sum := modelSum(b[:10] + "\x00\x00" + b[12:head])
	return b[:10] + string([]byte{byte(sum >> 8), byte(sum)}) + b[12:]
}

func addr6(last byte) api.Addr { return api.Addr{V6: true, B: [16]byte{0: 0xfd, 15: last}} }

func small() api.Packet {
	return api.Packet{Src: wire.V4(10, 0, 0, 1), Dst: wire.V4(10, 0, 0, 2), Proto: 17, Hop: 64, ID: 1, Payload: "hi"}
}

func whole6() api.Packet {
	return api.Packet{Src: addr6(1), Dst: addr6(2), Proto: 17, Hop: 64, Payload: "hello"}
}

func cut6() api.Packet {
	return with(whole6(), func(p *api.Packet) { p.Cut, p.ID, p.Offset, p.More = true, 7, 56, true })
}

// wrong is a packet that may not be, by each of its fields.
func wrong() api.Packet {
	return api.Packet{Src: addr6(1), Dst: api.Addr{B: [16]byte{15: 1}}, Proto: -1, Hop: 1 << 40, Class: math.MinInt, ID: math.MaxInt, Offset: 3, More: true, Still: true, Options: "x", Flow: -9, Exts: []api.Ext{{Kind: 44, Body: "y"}}}
}

// behind6 is whole6 with these bytes behind its first header.
func behind6(next int, bytes string) string {
	b, _ := Build(with(whole6(), func(p *api.Packet) { p.Payload = bytes }))
	return b[:6] + string([]byte{byte(next)}) + b[7:]
}

func with(p api.Packet, changes ...func(p *api.Packet)) api.Packet {
	for _, change := range changes {
		change(&p)
	}
	return p
}

func withExts(p api.Packet, exts ...api.Ext) api.Packet {
	p.Exts = exts
	return p
}

func clone(p api.Packet) api.Packet {
	p.Exts = slices.Clone(p.Exts)
	p.Options, p.Payload = strings.Clone(p.Options), strings.Clone(p.Payload)
	return p
}

func proto(p *api.Packet) *int  { return &p.Proto }
func hop(p *api.Packet) *int    { return &p.Hop }
func class(p *api.Packet) *int  { return &p.Class }
func id(p *api.Packet) *int     { return &p.ID }
func offset(p *api.Packet) *int { return &p.Offset }
func flow(p *api.Packet) *int   { return &p.Flow }

// changeValue makes another value of a field of any kind that packets have.
func changeValue(v reflect.Value) {
	switch v.Kind() {
	case reflect.Bool:
		v.SetBool(!v.Bool())
	case reflect.Int:
		v.SetInt(v.Int() ^ 1)
	case reflect.String:
		v.SetString(v.String() + "\x00")
	case reflect.Slice:
		v.Set(reflect.Append(v, reflect.Zero(v.Type().Elem())))
	case reflect.Struct:
		changeValue(v.Field(0))
	default:
		panic(v.Kind())
	}
}

func drawnText(r *rand.Rand, size int) string {
	b := make([]byte, size)
	for i := range b {
		b[i] = []byte{0, 255, byte(r.Uint32()), byte(r.Uint32())}[r.IntN(4)]
	}
	return string(b)
}

// drawnUpTo has many that are at the edges.
func drawnUpTo(r *rand.Rand, most int) int {
	return []int{0, most, r.IntN(most + 1), r.IntN(most + 1)}[r.IntN(4)]
}

func drawnAddr(r *rand.Rand, v6 bool) api.Addr {
	a := api.Addr{V6: v6}
	size := 4
	if v6 {
		size = 16
	}
	copy(a.B[:], drawnText(r, size))
	return a
}

// drawnPacket may be and fits.
func drawnPacket(r *rand.Rand) api.Packet {
	v6 := r.IntN(3) > 0
	p := api.Packet{
		Src: drawnAddr(r, v6), Dst: drawnAddr(r, v6),
		Proto: drawnUpTo(r, 255), Hop: drawnUpTo(r, 255), Class: drawnUpTo(r, 255),
		Payload: drawnText(r, r.IntN(60)),
	}
	if !v6 {
		p.ID, p.Offset = drawnUpTo(r, 65535), 8*drawnUpTo(r, 8191)
		p.More, p.Still = r.IntN(2) == 0, r.IntN(2) == 0
		p.Options = drawnText(r, 4*drawnUpTo(r, 10))
		return p
	}
	for isHeader := true; isHeader; isHeader = p.Proto == 0 || p.Proto == 43 || p.Proto == 44 || p.Proto == 60 {
		p.Proto = r.IntN(256)
	}
	p.Flow = drawnUpTo(r, 1048575)
	for i := range r.IntN(5) {
		ext := api.Ext{Kind: []int{43, 60}[r.IntN(2)], Body: drawnText(r, 6+8*r.IntN(4))}
		if i == 0 && r.IntN(2) == 0 {
			ext.Kind = 0
		}
		if r.IntN(40) == 0 {
			ext.Body = drawnText(r, 2046)
		}
		p.Exts = append(p.Exts, ext)
	}
	if r.IntN(2) == 0 {
		p.Cut, p.ID, p.Offset, p.More = true, drawnUpTo(r, 4294967295), 8*drawnUpTo(r, 8191), r.IntN(2) == 0
	}
	return p
}

// spoilPacket changes one thing, mostly so that the packet may not be.
func spoilPacket(r *rand.Rand, p *api.Packet) {
	numbers := []int{-1, 0, 1, 7, 8, 43, 44, 60, 255, 256, 65528, 65535, 65536, 1048575, 1048576, 4294967295, 4294967296, math.MinInt, math.MaxInt}
	number := numbers[r.IntN(len(numbers))]
	switch r.IntN(14) {
	case 0:
		p.Src = drawnAddr(r, r.IntN(2) == 0)
	case 1:
		p.Dst.B[r.IntN(16)]++
	case 2:
		p.Proto = number
	case 3:
		p.Hop = number
	case 4:
		p.Class = number
	case 5:
		p.ID = number
	case 6:
		p.Offset = number
	case 7:
		p.Flow = number
	case 8:
		p.More = !p.More
	case 9:
		p.Still = !p.Still
	case 10:
		p.Cut = !p.Cut
	case 11:
		p.Options = drawnText(r, r.IntN(50))
	case 12:
		p.Exts = append(p.Exts, api.Ext{Kind: numbers[r.IntN(len(numbers))], Body: drawnText(r, 6)})
	case 13:
		for i := range p.Exts {
			p.Exts[i].Body += drawnText(r, 1+r.IntN(8))
		}
	}
}

// drawnBytes are those of a packet, mostly spoiled; of version 4 mostly with the right checksum all the same.
func drawnBytes(r *rand.Rand) string {
	if r.IntN(20) == 0 {
		return drawnText(r, r.IntN(100))
	}
	text, _ := modelBuild(drawnPacket(r))
	b := []byte(text)
	for range r.IntN(4) {
		at := r.IntN(len(b))
		if r.IntN(2) == 0 {
			at = r.IntN(min(len(b), 64))
		}
		b[at] = []byte{0, 1, 43, 44, 60, 255, b[at] ^ 1<<r.IntN(8), byte(r.Uint32())}[r.IntN(8)]
	}
	switch r.IntN(4) {
	case 0:
		b = b[:r.IntN(len(b)+1)]
	case 1:
		b = append(b, drawnText(r, r.IntN(30))...)
	}
	if len(b) >= 20 && b[0]>>4 == 4 && r.IntN(4) > 0 {
		return summed(string(b))
	}
	return string(b)
}
