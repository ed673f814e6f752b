package wire

import (
	"fmt"
	"math"
	"math/big"
	"math/rand/v2"
	"net/netip"
	"slices"
	"strings"
	"testing"

	"adit/api"
)

func TestExamples(t *testing.T) {
	check(t, "Sum", Sum("\x00\x01\xf2\x03\xf4\xf5\xf6\xf7"), 0x220d)
	check(t, "Sum of none", Sum(), 65535)
	check(t, "Sum of 1", Sum("\x01"), 65279)
	check(t, "Sum of ff ff", Sum("\xff\xff"), 0)
	check(t, "Put in 2", Put(258, 2), "\x01\x02")
	check(t, "Put in 1", Put(258, 1), "\x02")
	checkGet(t, "\x01\x02\x03", 1, 2, 515, true)
	checkText(t, V4(192, 0, 2, 1), "192.0.2.1", api.OK)
	checkText(t, addr6(0x2001, 0xdb8, 0, 0, 1, 0, 0, 1), "2001:db8::1:0:0:1", api.OK)
	checkText(t, addr6(), "::", api.OK)
	checkParse(t, "::1", addr6(0, 0, 0, 0, 0, 0, 0, 1), api.OK)
	checkParse(t, "1::", addr6(1), api.OK)
	checkParse(t, "FE80:0:0:0:0:0:0:0001", addr6(0xfe80, 0, 0, 0, 0, 0, 0, 1), api.OK)
	checkParse(t, "1:2:3:4:5:6:7::", addr6(1, 2, 3, 4, 5, 6, 7), api.OK)
	for _, s := range []string{"01.2.3.4", "1.2.3", "256.0.0.0", "1:2", ":::", "1::2::3", "12345::", "::1.2.3.4", "1:2:3:4:5:6:7:8::"} {
		checkParse(t, s, api.Addr{}, api.ErrText)
	}
}

// P12.1

func TestSumOfOneAndTwoBytes(t *testing.T) {
	for n := range 65536 {
		high, low := byte(n/256), byte(n%256)
		if got := Sum(string([]byte{high, low})); got != 65535-n {
			t.Fatalf("Sum of %d: %d", n, got)
		}
	}
	for n := range 256 {
		check(t, fmt.Sprint("one byte, ", n), Sum(string([]byte{byte(n)})), 65535-256*n)
	}
}

func TestSumCarries(t *testing.T) {
	for _, c := range []struct {
		text string
		want int
	}{
		{"\xff\xff\x00\x01", 65534},         // 10000: 1
		{"\xff\xff\xff\xff\x00\x01", 65534}, // 1ffff, 10000: 1
		{"\xff\xff\xff\xff", 0},             // 1fffe: ffff
		{"\xff\xff\x00\x00", 0},             // ffff: nothing is above
		{"\xff\xff\x01", 65279},             // a byte 0 more: 100ff, 100
		{strings.Repeat("\xff", 1<<20), 0},  // the sum is above 2^32
		{strings.Repeat("\xff", 1<<20) + "\x01", 65279},
		{strings.Repeat("\xff", 1<<20+1), 255}, // the last pair is ff 00
		{strings.Repeat("\x00", 1<<20+1), 65535},
	} {
		check(t, fmt.Sprint(len(c.text), " bytes"), Sum(c.text), c.want)
		check(t, fmt.Sprint(len(c.text), " bytes of the model"), modelSum(c.text), c.want)
	}
}

func TestSumOfParts(t *testing.T) {
	for _, parts := range [][]string{nil, {}, {""}, {"", "", ""}} {
		check(t, "no bytes", Sum(parts...), 65535)
	}
	check(t, "a pair in two parts", Sum("\x01", "\x02"), 65535-0x0102)
	check(t, "parts of one byte", Sum("\x01", "\x02", "\x03"), 65535-0x0402)
	check(t, "an odd part, empty ones", Sum("", "\x01\x02\x03", "", "\x04", ""), 65535-0x0406)
	check(t, "the byte 0 more stands at the end alone", Sum("\x01", "\x01"), 65535-0x0101)
	parts := []string{"\x01\x02", "\x03"}
	Sum(parts...)
	check(t, "parts stay", slices.Equal(parts, []string{"\x01\x02", "\x03"}), true)
}

func TestSumOfDrawnParts(t *testing.T) {
	r := rand.New(rand.NewPCG(12, 1))
	for range 3000 {
		text := drawnText(r, r.IntN(200))
		if got, want := Sum(drawnCut(r, text)...), modelSum(text); got != want {
			t.Fatalf("Sum of %x: %d, want %d", text, got, want)
		}
	}
}

// P12.2

func TestPut(t *testing.T) {
	n := uint64(0x0123456789abcdef)
	whole := "\x01\x23\x45\x67\x89\xab\xcd\xef"
	for size := 1; size <= 8; size++ {
		check(t, fmt.Sprint("in ", size), Put(n, size), whole[8-size:])
		check(t, fmt.Sprint("0 in ", size), Put(0, size), strings.Repeat("\x00", size))
		check(t, fmt.Sprint("the greatest in ", size), Put(math.MaxUint64, size), strings.Repeat("\xff", size))
		check(t, fmt.Sprint("1 in ", size), Put(1, size), strings.Repeat("\x00", size-1)+"\x01")
	}
	for _, size := range wrongSizes() {
		check(t, fmt.Sprint("in ", size), Put(n, size), "")
	}
}

func TestGet(t *testing.T) {
	whole := "\xff\x01\x23\x45\x67\x89\xab\xcd\xef\xfe"
	n := uint64(0x0123456789abcdef)
	for size := 1; size <= 8; size++ {
		checkGet(t, whole, 1, size, n>>(8*(8-size)), true)
		checkGet(t, whole, 9-size, size, n&(math.MaxUint64>>(8*(8-size))), true)
	}
	checkGet(t, strings.Repeat("\xff", 8), 0, 8, math.MaxUint64, true)
	for _, size := range wrongSizes() {
		checkGet(t, strings.Repeat(whole, 30), 0, size, 0, false)
	}
}

func TestGetAtTheEdges(t *testing.T) {
	for many := range 12 {
		s := strings.Repeat("\x01", many)
		for size := 1; size <= 8; size++ {
			for at := -9; at <= 21; at++ {
				stands := at >= 0 && at+size <= many
				n, ok := Get(s, at, size)
				check(t, fmt.Sprint("ok of ", size, " at ", at, " of ", many), ok, stands)
				check(t, fmt.Sprint("not 0: ", size, " at ", at, " of ", many), n != 0, stands)
			}
			for _, at := range []int{math.MinInt, math.MinInt + 8, math.MinInt32, -1 << 32, 1 << 32, math.MaxInt32, math.MaxInt - 8, math.MaxInt - size, math.MaxInt - size + 1, math.MaxInt} {
				checkGet(t, s, at, size, 0, false)
			}
		}
	}
	for _, size := range wrongSizes() {
		checkGet(t, "", 0, size, 0, false)
		checkGet(t, "\x01", math.MinInt, size, 0, false)
		checkGet(t, "\x01", math.MaxInt, size, 0, false)
	}
}

// P12.3

func TestValid(t *testing.T) {
	check(t, "the zero address", Valid(api.Addr{}), true)
	check(t, "the zero address of version 6", Valid(api.Addr{V6: true}), true)
	for at := range 16 {
		for bit := range 8 {
			var b [16]byte
			b[at] = 1 << bit
			check(t, fmt.Sprint("version 4, byte ", at), Valid(api.Addr{B: b}), at < 4)
			check(t, fmt.Sprint("version 6, byte ", at), Valid(api.Addr{V6: true, B: b}), true)
		}
	}
	check(t, "bytes 4 and 15", Valid(api.Addr{B: [16]byte{4: 1, 15: 255}}), false)
}

func TestV4(t *testing.T) {
	check(t, "V4", V4(1, 2, 3, 4), api.Addr{B: [16]byte{1, 2, 3, 4}})
	check(t, "V4 of 0", V4(0, 0, 0, 0), api.Addr{})
	check(t, "V4 of 255", V4(255, 255, 255, 255), api.Addr{B: [16]byte{255, 255, 255, 255}})
}

func TestBytes(t *testing.T) {
	check(t, "version 4", Bytes(V4(1, 2, 3, 4)), "\x01\x02\x03\x04")
	check(t, "version 4, 0", Bytes(api.Addr{}), "\x00\x00\x00\x00")
	check(t, "version 6", Bytes(addr6(1, 0x203, 0, 0, 0, 0, 0, 0xfeff)), "\x00\x01\x02\x03\x00\x00\x00\x00\x00\x00\x00\x00\x00\x00\xfe\xff")
	check(t, "version 6, 0", Bytes(api.Addr{V6: true}), strings.Repeat("\x00", 16))
	for at := 4; at < 16; at++ {
		check(t, fmt.Sprint("may not be, byte ", at), Bytes(mayNotBe(at)), "")
	}
}

func TestFrom(t *testing.T) {
	bytes := "\x01\x02\x03\x04\x05\x06\x07\x08\x09\x0a\x0b\x0c\x0d\x0e\x0f\x10\x11\x12"
	for many := range len(bytes) {
		a, errno := From(bytes[:many])
		switch many {
		case 4:
			check(t, "4 bytes", a, V4(1, 2, 3, 4))
			check(t, "4 bytes", errno, api.OK)
		case 16:
			check(t, "16 bytes", a, addr6(0x102, 0x304, 0x506, 0x708, 0x90a, 0xb0c, 0xd0e, 0xf10))
			check(t, "16 bytes", errno, api.OK)
		default:
			check(t, fmt.Sprint(many, " bytes"), a, api.Addr{})
			check(t, fmt.Sprint(many, " bytes"), errno, api.ErrArg)
		}
	}
	for _, many := range []int{20, 32, 256 + 4, 256 + 16, 1<<16 + 4, 1<<16 + 16, 1 << 20} {
		a, errno := From(strings.Repeat("\x01", many))
		check(t, fmt.Sprint(many, " bytes"), a, api.Addr{})
		check(t, fmt.Sprint(many, " bytes"), errno, api.ErrArg)
	}
}

func TestGroup(t *testing.T) {
	for first := range 256 {
		a := V4(byte(first), 1, 2, 3)
		check(t, fmt.Sprint("version 4, ", first), Group(a), first >= 224)
		a.V6 = true
		check(t, fmt.Sprint("version 6, ", first), Group(a), first == 255)
		a.V6 = false
		for at := 4; at < 16; at++ {
			b := a
			b.B[at] = 255
			check(t, fmt.Sprint("may not be, ", first), Group(b), false)
		}
	}
	check(t, "the second byte of version 4", Group(V4(0, 255, 255, 255)), false)
	check(t, "the second byte of version 6", Group(addr6(0x00ff, 0xffff)), false)
}

func TestNone(t *testing.T) {
	check(t, "version 4", None(api.Addr{}), true)
	check(t, "version 6", None(api.Addr{V6: true}), true)
	for at := range 16 {
		for bit := range 8 {
			var b [16]byte
			b[at] = 1 << bit
			check(t, fmt.Sprint("version 4, byte ", at), None(api.Addr{B: b}), false)
			check(t, fmt.Sprint("version 6, byte ", at), None(api.Addr{V6: true, B: b}), false)
		}
	}
}

// P12.4

func TestTextOfVersion4(t *testing.T) {
	for n := range 256 {
		b := byte(n)
		checkText(t, V4(b, 0, 255, b), fmt.Sprintf("%d.0.255.%d", n, n), api.OK)
		checkText(t, V4(10, b, 100, 9), fmt.Sprintf("10.%d.100.9", n), api.OK)
		checkText(t, V4(1, 99, b, 200), fmt.Sprintf("1.99.%d.200", n), api.OK)
	}
	for at := 4; at < 16; at++ {
		checkText(t, mayNotBe(at), "", api.ErrArg)
	}
}

func TestTextOfEachNumber(t *testing.T) {
	for n := range 65536 {
		text, errno := Text(addr6(n, 1, 2, 3, 4, 5, 6, n))
		if want := fmt.Sprintf("%x:1:2:3:4:5:6:%x", n, n); text != want || errno != api.OK {
			t.Fatalf("Text: %q %d, want %q", text, errno, want)
		}
	}
}

func TestTextOfRows(t *testing.T) {
	for _, c := range []struct {
		a    api.Addr
		want string
	}{
		{addr6(1, 0, 2, 3, 4, 5, 6, 7), "1:0:2:3:4:5:6:7"}, // one pair is no row
		{addr6(0, 1, 2, 3, 4, 5, 6, 7), "0:1:2:3:4:5:6:7"},
		{addr6(1, 2, 3, 4, 5, 6, 7, 0), "1:2:3:4:5:6:7:0"},
		{addr6(0, 1, 0, 1, 0, 1, 0, 1), "0:1:0:1:0:1:0:1"},
		{addr6(0, 0, 1, 2, 3, 4, 5, 6), "::1:2:3:4:5:6"},
		{addr6(1, 2, 3, 4, 5, 6, 0, 0), "1:2:3:4:5:6::"},
		{addr6(1, 0, 0, 2, 0, 0, 3, 4), "1::2:0:0:3:4"}, // of several the first
		{addr6(0, 0, 1, 0, 0, 0, 2, 0), "0:0:1::2:0"},   // the longest one
		{addr6(0, 0, 0, 1, 0, 0, 0, 1), "::1:0:0:0:1"},
		{addr6(1, 0, 0, 0, 1, 0, 0, 0), "1::1:0:0:0"},
		{addr6(0, 0, 0, 1, 0, 0, 0, 0), "0:0:0:1::"},
		{addr6(0, 1), "0:1::"},
		{addr6(0, 0, 0, 0, 0, 0, 0, 1), "::1"},
		{addr6(1), "1::"},
		{addr6(0, 0, 0, 0, 0, 0xffff, 0x102, 0x304), "::ffff:102:304"}, // no version 4 within
		{addr6(0x100, 0x1000, 0x10, 0xabcd, 0xef, 0xa, 0xa0, 0xa00), "100:1000:10:abcd:ef:a:a0:a00"},
	} {
		checkText(t, c.a, c.want, api.OK)
	}
}

func TestTextOfAllRows(t *testing.T) {
	for set := range 256 {
		for _, value := range []int{1, 0x100, 0xffff, 0x10} {
			var numbers [8]int
			for i := range numbers {
				numbers[i] = value * (set >> i & 1)
			}
			a := addr6(numbers[:]...)
			want, _ := modelText(a)
			checkText(t, a, want, api.OK)
			if value == 1 {
				check(t, "as others tell it", want, netip.AddrFrom16(a.B).String())
			}
			checkParse(t, want, a, api.OK)
		}
	}
}

func TestParseOfVersion4(t *testing.T) {
	for n := range 256 {
		b := byte(n)
		checkParse(t, fmt.Sprintf("%d.0.255.%d", n, n), V4(b, 0, 255, b), api.OK)
		checkParse(t, fmt.Sprintf("10.%d.%d.9", n, n), V4(10, b, b, 9), api.OK)
	}
	for place := range 4 {
		for _, number := range []string{"", "00", "000", "01", "001", "010", "0255", "256", "260", "300", "999", "1000", "65536", "4294967296", "18446744073709551616", "+1", "-1", "-0", "+0", " 1", "1 ", "1_0", "0x1", "a", "f", "1a", "1e1", "½", "\u0661", "1\x00", "\xff", "/", ":", ";", "1:", strings.Repeat("0", 400), strings.Repeat("1", 400)} {
			numbers := []string{"1", "2", "3", "4"}
			numbers[place] = number
			checkParse(t, strings.Join(numbers, "."), api.Addr{}, api.ErrText)
		}
	}
	for _, s := range []string{"", ".", "...", "....", "1", "1.2", "1.2.3.", ".1.2.3", "1.2.3.4.", ".1.2.3.4", "1..2.3", "1..2.3.4", "1.2.3.4.5", "1.2.3.4.5.6", " 1.2.3.4", "1.2.3.4 ", "1.2.3.4\n", "1.2.3.4\x00", "1.2.3.4/32", "1.2.3.4:80", "1,2,3,4", "16909060", "1.2.772", "localhost"} {
		checkParse(t, s, api.Addr{}, api.ErrText)
	}
}

func TestParseOfEachNumber(t *testing.T) {
	for n := range 65536 {
		a := addr6(n, 1, 2, 3, 4, 5, 6, n)
		for _, s := range []string{fmt.Sprintf("%x:1:2:3:4:5:6:%X", n, n), fmt.Sprintf("%04x:1:2:3:4:5:6:%04X", n, n)} {
			if got, errno := Parse(s); got != a || errno != api.OK {
				t.Fatalf("Parse of %q: %v %d", s, got, errno)
			}
		}
	}
}

func TestParseOfVersion6(t *testing.T) {
	for _, c := range []struct {
		s string
		a api.Addr
	}{
		{"::", addr6()},
		{"0:0:0:0:0:0:0:0", addr6()},
		{"0000:0000:0000:0000:0000:0000:0000:0000", addr6()},
		{"0::", addr6()},
		{"::0", addr6()},
		{"0::0", addr6()},
		{"::0:0:0:0:0:0:0", addr6()},
		{"0:0:0:0:0:0:0::", addr6()},
		{"1:2:3:4:5:6:7:8", addr6(1, 2, 3, 4, 5, 6, 7, 8)},
		{"::2:3:4:5:6:7:8", addr6(0, 2, 3, 4, 5, 6, 7, 8)},
		{"1::3:4:5:6:7:8", addr6(1, 0, 3, 4, 5, 6, 7, 8)},
		{"1:2:3:4:5:6::8", addr6(1, 2, 3, 4, 5, 6, 0, 8)},
		{"1::0:3:4:5:6:7", addr6(1, 0, 0, 3, 4, 5, 6, 7)}, // a row's second half
		{"1:0::3", addr6(1, 0, 0, 0, 0, 0, 0, 3)},
		{"1:0:0:2::3", addr6(1, 0, 0, 2, 0, 0, 0, 3)},
		{"aBcD:Ef:0a:00A::", addr6(0xabcd, 0xef, 0xa, 0xa)},
		{"ABCD::CDEF", addr6(0xabcd, 0, 0, 0, 0, 0, 0, 0xcdef)},
		{"ffff:ffff:ffff:ffff:ffff:ffff:ffff:ffff", addr6(0xffff, 0xffff, 0xffff, 0xffff, 0xffff, 0xffff, 0xffff, 0xffff)},
	} {
		checkParse(t, c.s, c.a, api.OK)
	}
}

func TestParseOfWrongVersion6(t *testing.T) {
	for place := range 8 {
		for _, number := range []string{"g", "G", "@", "`", "/", "x", "0x1", "+1", "-1", " 1", "1 ", "1_0", "00000", "00001", "12345", "10000", "fffff", "1.2", "1.2.3.4", "½", "\u0661", "1\x00", "\xff", strings.Repeat("0", 400)} {
			numbers := strings.Split("1:2:3:4:5:6:7:8", ":")
			numbers[place] = number
			checkParse(t, strings.Join(numbers, ":"), api.Addr{}, api.ErrText)
			checkParse(t, strings.Join(numbers[:place+1], ":")+"::", api.Addr{}, api.ErrText)
			checkParse(t, "::"+strings.Join(numbers[place:], ":"), api.Addr{}, api.ErrText)
		}
		numbers := strings.Split("1:2:3:4:5:6:7:8", ":")
		short := slices.Delete(numbers, place, place+1)
		checkParse(t, strings.Join(short, ":"), api.Addr{}, api.ErrText)
		checkParse(t, strings.Join(slices.Insert(short, place, "", "", ""), ":"), api.Addr{}, api.ErrText)
	}
	for _, s := range []string{":", ":1", "1:", "1", "::::", "::1:", ":1::", "1:::2", ":::1", "1:::", "::1::", "::1::2", "1::2::", ":1:2:3:4:5:6:7:8", "1:2:3:4:5:6:7:8:", ":1:2:3:4:5:6:7", "1:2:3:4:5:6:7:", "1:2:3:4:5:6:7:8:9", "1:2:3:4::5:6:7:8", "::1:2:3:4:5:6:7:8", "1::2:3:4:5:6:7:8", "1:2:3:4:5:6:7::8", "1:2:3:4:5:6:7:8:9::", "::1:2:3:4:5:6:7:8:9", "1:2:3:4:5:6:7:8:9:10:11:12:13:14:15:16", "[::1]", "::1%eth0", "::1/128", " ::1", "::1 ", "::1\n", "::\x00", "::ffff:1.2.3.4", "1:2:3:4:5:6:1.2.3.4", "0x::", "::0x1", strings.Repeat(":", 1000), strings.Repeat("1:", 1000), strings.Repeat("0", 1000)} {
		checkParse(t, s, api.Addr{}, api.ErrText)
	}
}

// All short texts of these bytes: nearly every way in which a text is wrong by a byte or two.
func TestParseOfShortTexts(t *testing.T) {
	texts := []string{""}
	for range 7 {
		var longer []string
		for _, s := range texts {
			for _, c := range ":.0a" {
				longer = append(longer, s+string(c))
			}
		}
		texts = longer
		for _, s := range texts {
			parseAsModel(t, s)
		}
	}
}

func TestParseOfLongTexts(t *testing.T) {
	for _, s := range []string{strings.Repeat("1", 1<<20), strings.Repeat(".", 1<<20), strings.Repeat(":", 1<<20), strings.Repeat("1:", 1<<20), strings.Repeat("1.", 1<<20), "1.2.3.4" + strings.Repeat(" ", 1<<20), "::" + strings.Repeat("0", 1<<20), strings.Repeat("0", 1<<20) + "::"} {
		checkParse(t, s, api.Addr{}, api.ErrText)
	}
}

func TestParseOfDrawnTexts(t *testing.T) {
	r := rand.New(rand.NewPCG(12, 4))
	right := 0
	for range 60000 {
		s := drawnAddressText(r)
		for range r.IntN(3) {
			s = spoiled(r, s)
		}
		if parseAsModel(t, s) {
			right++
		}
	}
	if right < 10000 || right > 50000 {
		t.Errorf("%d of the texts are right: the test says little", right)
	}
}

// P12.5

func TestPseudo(t *testing.T) {
	a, b := V4(1, 2, 3, 4), V4(5, 6, 7, 8)
	check(t, "version 4", Pseudo(a, b, 17, 258), "\x01\x02\x03\x04\x05\x06\x07\x08\x00\x11\x01\x02")
	check(t, "version 4, the least", Pseudo(api.Addr{}, api.Addr{}, 0, 0), strings.Repeat("\x00", 12))
	check(t, "version 4, the greatest", Pseudo(a, b, 255, 65535), "\x01\x02\x03\x04\x05\x06\x07\x08\x00\xff\xff\xff")
	c, d := addr6(0x102, 3, 0, 0, 0, 0, 0, 4), addr6(0xfe80, 0, 0, 0, 0, 0, 0, 9)
	ends := Bytes(c) + Bytes(d)
	check(t, "version 6", Pseudo(c, d, 58, 258), ends+"\x00\x00\x01\x02\x00\x00\x00\x3a")
	check(t, "version 6, the least", Pseudo(c, d, 0, 0), ends+strings.Repeat("\x00", 8))
	check(t, "version 6, the greatest", Pseudo(c, d, 255, 65535), ends+"\x00\x00\xff\xff\x00\x00\x00\xff")
}

func TestPseudoIsEmpty(t *testing.T) {
	four, six, none := V4(1, 2, 3, 4), addr6(1, 2), mayNotBe(9)
	check(t, "versions 4 and 6", Pseudo(four, six, 6, 1), "")
	check(t, "versions 6 and 4", Pseudo(six, four, 6, 1), "")
	for _, other := range []api.Addr{four, six, none} {
		check(t, "the source may not be", Pseudo(none, other, 6, 1), "")
		check(t, "the destination may not be", Pseudo(other, none, 6, 1), "")
	}
	for _, a := range []api.Addr{four, six} {
		for _, proto := range []int{math.MinInt, math.MinInt32, -256, -255, -1, 256, 257, 512, 1 << 32, 1<<32 + 6, math.MaxInt} {
			check(t, fmt.Sprint("proto ", proto), Pseudo(a, a, proto, 1), "")
		}
		for _, size := range []int{math.MinInt, math.MinInt32, -65536, -65535, -1, 65536, 65537, 131072, 1 << 32, 1<<32 + 1, math.MaxInt} {
			check(t, fmt.Sprint("size ", size), Pseudo(a, a, 6, size), "")
		}
		for n := range 256 {
			check(t, fmt.Sprint("proto ", n), Pseudo(a, a, n, 257*n) != "", true)
		}
	}
}

// P12.6

func TestSumFollows(t *testing.T) {
	r := rand.New(rand.NewPCG(12, 6))
	for range 2000 {
		text := drawnText(r, 2*r.IntN(80))
		sum := Sum(text)
		check(t, "of a text and its own Sum", Sum(text, Put(uint64(sum), 2)), 0)
		check(t, "of a text and its own Sum, cut", Sum(drawnCut(r, text+Put(uint64(sum), 2))...), 0)
		check(t, "cut", Sum(drawnCut(r, text)...), sum)
		check(t, "in another order", Sum(shuffledPairs(r, text)), sum)
	}
}

func TestNumbersFollow(t *testing.T) {
	r := rand.New(rand.NewPCG(12, 7))
	for range 2000 {
		n, size, ahead := r.Uint64()>>r.IntN(64), 1+r.IntN(8), drawnText(r, r.IntN(5))
		want := new(big.Int).SetUint64(n)
		want.Mod(want, new(big.Int).Lsh(big.NewInt(1), uint(8*size)))
		checkGet(t, ahead+Put(n, size)+drawnText(r, r.IntN(5)), len(ahead), size, want.Uint64(), true)
	}
}

func TestAddressesFollow(t *testing.T) {
	r := rand.New(rand.NewPCG(12, 8))
	for range 20000 {
		a := drawnAddress(r)
		want, _ := modelText(a)
		checkText(t, a, want, api.OK)
		checkParse(t, want, a, api.OK)
		back, errno := From(Bytes(a))
		check(t, "From of Bytes", back, a)
		check(t, "From of Bytes", errno, api.OK)
		s := drawnForm(r, a)
		parsed, errno := Parse(s)
		check(t, "Parse of "+s, errno, api.OK)
		check(t, "Parse of "+s, parsed, a)
		text, _ := Text(parsed)
		checkParse(t, text, a, api.OK)
	}
}

// What the tests lean on.

func check[V comparable](t *testing.T, what string, got, want V) {
	t.Helper()
	if got != want {
		t.Errorf("%s: %#v, want %#v", what, got, want)
	}
}

func checkGet(t *testing.T, s string, at, size int, want uint64, wantOK bool) {
	t.Helper()
	n, ok := Get(s, at, size)
	check(t, fmt.Sprint("Get of ", size, " at ", at, " of ", len(s)), n, want)
	check(t, fmt.Sprint("Get's ok of ", size, " at ", at, " of ", len(s)), ok, wantOK)
}

func checkText(t *testing.T, a api.Addr, want string, wantErrno api.Errno) {
	t.Helper()
	text, errno := Text(a)
	check(t, "Text for "+want, text, want)
	check(t, "Text's error for "+want, errno, wantErrno)
}

func checkParse(t *testing.T, s string, want api.Addr, wantErrno api.Errno) {
	t.Helper()
	a, errno := Parse(s)
	if a != want || errno != wantErrno {
		t.Errorf("Parse of %.60q: %v %d, want %v %d", s, a, errno, want, wantErrno)
	}
}

// parseAsModel holds Parse against the model, and tells whether s is an address.
func parseAsModel(t *testing.T, s string) bool {
	t.Helper()
	want, wantErrno := modelParse(s)
	checkParse(t, s, want, wantErrno)
	return wantErrno == api.OK
}

func wrongSizes() []int {
	return []int{math.MinInt, math.MinInt32, -256, -255, -8, -1, 0, 9, 10, 16, 64, 256, 257, 264, 1 << 32, 1<<32 + 1, math.MaxInt - 1, math.MaxInt}
}

func addr6(numbers ...int) api.Addr {
	a := api.Addr{V6: true}
	for i, n := range numbers {
		a.B[2*i], a.B[2*i+1] = byte(n/256), byte(n%256)
	}
	return a
}

// mayNotBe is an address of version 4 that has a byte at this place.
func mayNotBe(at int) api.Addr {
	a := V4(225, 2, 3, 4)
	a.B[at] = 1
	return a
}

// drawnText has many bytes 0 and 255, at which sums turn.
func drawnText(r *rand.Rand, size int) string {
	b := make([]byte, size)
	for i := range b {
		b[i] = []byte{0, 255, byte(r.Uint32()), byte(r.Uint32())}[r.IntN(4)]
	}
	return string(b)
}

func drawnCut(r *rand.Rand, text string) []string {
	var parts []string
	for text != "" {
		at := r.IntN(min(len(text), 9) + 1)
		parts = append(parts, text[:at])
		text = text[at:]
	}
	return parts
}

func shuffledPairs(r *rand.Rand, text string) string {
	pairs := slices.Collect(slices.Chunk([]byte(text), 2))
	r.Shuffle(len(pairs), func(i, j int) { pairs[i], pairs[j] = pairs[j], pairs[i] })
	return string(slices.Concat(pairs...))
}

// drawnAddress has many numbers that are 0.
func drawnAddress(r *rand.Rand) api.Addr {
	if r.IntN(4) == 0 {
		return V4(byte(r.Uint32()), byte(r.Uint32()>>r.IntN(9)), byte(r.Uint32()>>24>>r.IntN(9)), byte(r.Uint32()))
	}
	var numbers [8]int
	for i := range numbers {
		if r.IntN(5) < 2 {
			numbers[i] = r.IntN(65536) >> r.IntN(16)
		}
	}
	return addr6(numbers[:]...)
}

// drawnForm is one of the texts that say this address.
func drawnForm(r *rand.Rand, a api.Addr) string {
	if !a.V6 {
		text, _ := modelText(a)
		return text
	}
	numbers := make([]string, 8)
	for i := range numbers {
		n := int(a.B[2*i])*256 + int(a.B[2*i+1])
		numbers[i] = fmt.Sprintf([]string{"%x", "%X", "%02x", "%03X", "%04x", "%04X"}[r.IntN(6)], n)
	}
	from := r.IntN(8)
	to := from
	for to < 8 && a.B[2*to] == 0 && a.B[2*to+1] == 0 && (to == from || r.IntN(4) > 0) {
		to++
	}
	if to == from {
		return strings.Join(numbers, ":")
	}
	return strings.Join(numbers[:from], ":") + "::" + strings.Join(numbers[to:], ":")
}

func drawnAddressText(r *rand.Rand) string { return drawnForm(r, drawnAddress(r)) }

// spoiled is a text with one byte taken out, put in or changed, or with a piece of itself once more.
func spoiled(r *rand.Rand, s string) string {
	const bytes = ":::...0019afAF gG+-x\x00\xff"
	at := r.IntN(len(s) + 1)
	from := r.IntN(len(bytes))
	put := bytes[from : from+1]
	switch kind := r.IntN(4); {
	case kind == 0 && at < len(s):
		return s[:at] + s[at+1:]
	case kind == 1 && at < len(s):
		return s[:at] + put + s[at+1:]
	case kind == 2:
		return s[:at] + s[r.IntN(at+1):]
	}
	return s[:at] + put + s[at:]
}
