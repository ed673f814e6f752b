package udp

import (
	"fmt"
	"math"
	"math/rand/v2"
	"strings"
	"testing"

	"adit/api"
	"adit/wire"
)

// P16.1

func TestBuildOfVersion6(t *testing.T) {
	a, b := api.Addr{V6: true, B: [16]byte{0: 0xfe, 1: 0x80, 15: 1}}, api.Addr{V6: true, B: [16]byte{0: 0xfe, 1: 0x80, 15: 2}}
	// the sum by hand: 2 times fe80 (fd01), 1 and 2 (fd04), the length 11 (fd0f), 17 (fd20), the ports 4000 and 35 (3d56), the length once more (3d61), 6869 (a5ca), 2100 (c6ca)
	bytes := "\x40\x00\x00\x35\x00\x0b\x39\x35hi!"
	checkBuild(t, "hi!", a, b, api.UDP{Src: 0x4000, Dst: 53, Data: "hi!"}, bytes, api.OK)
	checkParse(t, "hi!", a, b, bytes, api.UDP{Src: 0x4000, Dst: 53, Data: "hi!"}, api.OK)
}

func TestEachPort(t *testing.T) {
	for _, ends := range pairs[:2] {
		for port := range 65536 {
			d := api.UDP{Src: port, Dst: 65535 - port, Data: "abc"}
			want, _ := modelBuild(ends[0], ends[1], d)
			checkBuild(t, fmt.Sprint("port ", port), ends[0], ends[1], d, want, api.OK)
			checkParse(t, fmt.Sprint("port ", port), ends[0], ends[1], want, d, api.OK)
		}
	}
}

func TestEachSize(t *testing.T) {
	for _, ends := range pairs {
		for n := range 600 {
			for _, data := range []string{text(n), zeros(n), strings.Repeat("\xff", n)} {
				for _, d := range []api.UDP{{Src: 53, Dst: 49152, Data: data}, {Data: data}, {Src: 65535, Dst: 65535, Data: data}} {
					want, _ := modelBuild(ends[0], ends[1], d)
					checkBuild(t, fmt.Sprint(n, " bytes"), ends[0], ends[1], d, want, api.OK)
					checkParse(t, fmt.Sprint(n, " bytes"), ends[0], ends[1], want, d, api.OK)
				}
			}
		}
	}
}

func TestWrongEnds(t *testing.T) {
	d, b := api.UDP{Src: 1, Dst: 2, Data: "hi"}, "\x00\x01\x00\x02\x00\x0a\x83\x6bhi"
	refused := func(what string, src, dst api.Addr) {
		t.Helper()
		checkBuild(t, what, src, dst, d, "", api.ErrArg)
		checkBuild(t, what+", ahead of ErrBig", src, dst, api.UDP{Data: zeros(65508)}, "", api.ErrArg)
		checkParse(t, what, src, dst, b, api.UDP{}, api.ErrArg)
		checkParse(t, what+", without a checksum", src, dst, withSum(b, 0), api.UDP{}, api.ErrArg)
		checkParse(t, what+", ahead of ErrShort", src, dst, b[:7], api.UDP{}, api.ErrArg)
		checkParse(t, what+", ahead of ErrShort", src, dst, "", api.UDP{}, api.ErrArg)
		checkParse(t, what+", ahead of ErrLength", src, dst, b[:9], api.UDP{}, api.ErrArg)
		checkParse(t, what+", ahead of ErrCheck", src, dst, withSum(b, 1), api.UDP{}, api.ErrArg)
	}
	refused("versions 4 and 6", one, two6)
	refused("versions 6 and 4", one6, two)
	refused("versions 4 and 6, all 0", api.Addr{}, api.Addr{V6: true})
	for i := 4; i < 16; i++ {
		refused(fmt.Sprint("src, byte ", i), mayNotBe(i), two)
		refused(fmt.Sprint("dst, byte ", i), one, mayNotBe(i))
		refused(fmt.Sprint("both, byte ", i), mayNotBe(i), mayNotBe(i))
		refused(fmt.Sprint("src, and another version, byte ", i), mayNotBe(i), two6)
	}
}

func TestBuildOfWrongPorts(t *testing.T) {
	for _, n := range []int{math.MinInt, math.MinInt32, -65536, -65535, -1, 65536, 65537, 131071, 1 << 32, 1<<32 + 53, math.MaxInt} {
		for _, ends := range pairs {
			checkBuild(t, fmt.Sprint("Src ", n), ends[0], ends[1], api.UDP{Src: n, Dst: 2}, "", api.ErrArg)
			checkBuild(t, fmt.Sprint("Dst ", n), ends[0], ends[1], api.UDP{Src: 1, Dst: n}, "", api.ErrArg)
			checkBuild(t, fmt.Sprint("ErrArg ahead of ErrBig, Src ", n), ends[0], ends[1], api.UDP{Src: n, Data: zeros(65508)}, "", api.ErrArg)
			checkBuild(t, fmt.Sprint("ErrArg ahead of ErrBig, Dst ", n), ends[0], ends[1], api.UDP{Dst: n, Data: zeros(65508)}, "", api.ErrArg)
		}
	}
}

func TestLongestDatagrams(t *testing.T) {
	for _, ends := range pairs {
		for _, n := range []int{65505, 65506, 65507} {
			for _, data := range []string{text(n), zeros(n), strings.Repeat("\xff", n)} {
				d := api.UDP{Src: 8, Dst: 5, Data: data}
				want, _ := modelBuild(ends[0], ends[1], d)
				checkBuild(t, fmt.Sprint(n, " bytes"), ends[0], ends[1], d, want, api.OK)
				checkParse(t, fmt.Sprint(n, " bytes"), ends[0], ends[1], want, d, api.OK)
				checkParse(t, fmt.Sprint(n, " bytes and more"), ends[0], ends[1], want+zeros(70000), d, api.OK)
			}
		}
		for _, n := range []int{65508, 65509, 65515, 65527, 65528, 65535, 65536, 70000, 1 << 20} {
			checkBuild(t, fmt.Sprint(n, " bytes"), ends[0], ends[1], api.UDP{Data: text(n)}, "", api.ErrBig)
		}
	}
}

// What is read may have more bytes than what is built: up to what its number can say.
func TestParseOfLongerDatagrams(t *testing.T) {
	for _, ends := range pairs {
		for _, n := range []int{65508, 65509, 65526, 65527} {
			d := api.UDP{Src: 8, Dst: 5, Data: text(n)}
			b := modelBytes(ends[0], ends[1], d)
			checkParse(t, fmt.Sprint(n, " bytes"), ends[0], ends[1], b, d, api.OK)
			checkParse(t, fmt.Sprint(n, " bytes and one more"), ends[0], ends[1], b+"x", d, api.OK)
			checkParse(t, fmt.Sprint(n, " bytes less one"), ends[0], ends[1], b[:len(b)-1], api.UDP{}, api.ErrLength)
			checkParse(t, fmt.Sprint(n, " bytes, another sum"), ends[0], ends[1], b[:len(b)-1]+"\x00", api.UDP{}, api.ErrCheck)
		}
		long := withSize(text(1<<20), 65535)
		want, errno := modelParse(ends[0], ends[1], long)
		checkParse(t, "2^20 bytes", ends[0], ends[1], long, want, errno)
	}
}

func TestParseOfShortDatagrams(t *testing.T) {
	for n := range 8 {
		for _, b := range []string{text(n), zeros(n), strings.Repeat("\xff", n)} {
			for _, ends := range pairs {
				checkParse(t, fmt.Sprint(n, " bytes"), ends[0], ends[1], b, api.UDP{}, api.ErrShort)
			}
		}
	}
	checkParse(t, "8 bytes", one, two, "\x00\x01\x00\x02\x00\x08\x00\x00", api.UDP{Src: 1, Dst: 2}, api.OK)
	checkParse(t, "8 bytes", one, two, zeros(8), api.UDP{}, api.ErrLength)
}

// The number is asked ahead of the checksum: what it says is looked at, if there is so much.
func TestEachLength(t *testing.T) {
	for _, ends := range pairs[:2] {
		b, _ := Build(ends[0], ends[1], api.UDP{Src: 1, Dst: 2, Data: text(30)})
		for size := range 65536 {
			for _, other := range []string{withSize(b, size), withSize(withSum(b, 0), size)} {
				want, wantErrno := modelParse(ends[0], ends[1], other)
				checkParse(t, fmt.Sprint("the number ", size), ends[0], ends[1], other, want, wantErrno)
			}
		}
		for size := range 39 {
			want := api.ErrCheck
			if size < 8 {
				want = api.ErrLength
			} else if size == 38 {
				want = api.OK
			}
			_, errno := Parse(ends[0], ends[1], withSize(b, size))
			check(t, fmt.Sprint("the number ", size), errno, want)
			_, errno = Parse(ends[0], ends[1], withSize(b, 39+size))
			check(t, fmt.Sprint("the number ", 39+size), errno, api.ErrLength)
		}
	}
	for size := 8; size <= 20; size++ {
		b := withSize(withSum("\x00\x01\x00\x02"+zeros(4)+text(12), 0), size)
		checkParse(t, fmt.Sprint("no checksum, the number ", size), one, two, b, api.UDP{Src: 1, Dst: 2, Data: text(12)[:size-8]}, api.OK)
	}
}

// Of all sums one alone is right; of version 4 none, which is 0, is right too.
func TestParseOfOtherSums(t *testing.T) {
	for _, data := range []string{"", "a", "hi", zeros(5), text(31)} {
		for _, ends := range pairs {
			d := api.UDP{Src: 3, Dst: 5, Data: data}
			b := modelBytes(ends[0], ends[1], d)
			right := modelSum(ends[0], ends[1], b)
			for sum := range 65536 {
				want := api.ErrCheck
				if sum == right || sum == 0 && !ends[0].V6 {
					want = api.OK
				}
				got, errno := Parse(ends[0], ends[1], withSum(b, sum))
				if errno != want || errno == api.OK && got != d || errno != api.OK && got != (api.UDP{}) {
					t.Fatalf("sum %d in the place of %d: %s %d", sum, right, start(got), errno)
				}
			}
		}
	}
}

// A checksum of 0 is laid as 65535: 0 says that there is none, which version 6 does not allow.
func TestChecksumOf0(t *testing.T) {
	zero := 0
	for _, ends := range pairs {
		for n := range 65536 {
			d := api.UDP{Src: 1, Dst: 2, Data: string([]byte{byte(n / 256), byte(n % 256)})}
			b, errno := Build(ends[0], ends[1], d)
			sum := wire.Sum(wire.Pseudo(ends[0], ends[1], 17, 10), withSum(b, 0))
			if sum != 0 {
				continue
			}
			zero++
			check(t, "laid", fmt.Sprintf("%x %d", b[6:8], errno), "ffff 0")
			checkParse(t, "65535 for 0", ends[0], ends[1], b, d, api.OK)
			if ends[0].V6 {
				checkParse(t, "0 of version 6", ends[0], ends[1], withSum(b, 0), api.UDP{}, api.ErrCheck)
			} else {
				checkParse(t, "0 of version 4", ends[0], ends[1], withSum(b, 0), d, api.OK)
			}
		}
	}
	check(t, "one of each pair of addresses", zero, len(pairs))
}

func TestParseOfTurnedBits(t *testing.T) {
	for _, size := range []int{0, 1, 2, 33} {
		for _, ends := range pairs {
			b, _ := Build(ends[0], ends[1], api.UDP{Src: 53, Dst: 49153, Data: text(size)})
			for bit := range 8 * len(b) {
				turned := []byte(b)
				turned[bit/8] ^= 128 >> (bit % 8)
				want, wantErrno := modelParse(ends[0], ends[1], string(turned))
				checkParse(t, fmt.Sprint("bit ", bit), ends[0], ends[1], string(turned), want, wantErrno)
				if wantErrno == api.OK {
					t.Errorf("bit %d of %x: it is read all the same", bit, b)
				}
			}
		}
	}
}

// The addresses are in the sum, whichever way round; what has none is read between any.
func TestParseForOthers(t *testing.T) {
	d := api.UDP{Src: 8, Dst: 77, Data: "hello"}
	b, _ := Build(one, two, d)
	checkParse(t, "the other way", two, one, b, d, api.OK)
	checkParse(t, "another src", wire.V4(10, 0, 0, 3), two, b, api.UDP{}, api.ErrCheck)
	checkParse(t, "another dst", one, wire.V4(10, 0, 0, 3), b, api.UDP{}, api.ErrCheck)
	checkParse(t, "without a checksum", wire.V4(1, 2, 3, 4), wire.V4(5, 6, 7, 8), withSum(b, 0), d, api.OK)
	b6, _ := Build(one6, two6, d)
	checkParse(t, "version 6, the other way", two6, one6, b6, d, api.OK)
	checkParse(t, "version 6, another src", addr6(3), two6, b6, api.UDP{}, api.ErrCheck)
	checkParse(t, "version 6, another dst", one6, addr6(3), b6, api.UDP{}, api.ErrCheck)
	checkParse(t, "version 6, without a checksum", one6, two6, withSum(b6, 0), api.UDP{}, api.ErrCheck)
	checkParse(t, "version 4 for version 6", one6, two6, b, api.UDP{}, api.ErrCheck)
	checkParse(t, "version 6 for version 4", one, two, b6, api.UDP{}, api.ErrCheck)
}

// P16.4 of the bytes: what stands behind is passed over, whatever it is.
func TestWhatStandsBehind(t *testing.T) {
	for _, ends := range pairs {
		for n := range 20 {
			d := api.UDP{Src: n, Dst: 53, Data: text(n)}
			b, _ := Build(ends[0], ends[1], d)
			for _, behind := range []string{"", "x", "\x00", "\xff\xff\xff", b, zeros(65535), text(70000)} {
				checkParse(t, fmt.Sprint(len(behind), " bytes behind"), ends[0], ends[1], b+behind, d, api.OK)
			}
		}
	}
}

func TestDrawnDatagrams(t *testing.T) {
	for seed := range uint64(30) {
		r := rand.New(rand.NewPCG(16, seed))
		for range 300 {
			ends := pairs[r.IntN(len(pairs))]
			for i := range ends {
				if ends[i].V6 {
					ends[i].B = [16]byte([]byte(drawnText(r, 16)))
				} else {
					ends[i].B = [16]byte([]byte(drawnText(r, 4) + zeros(12)))
				}
			}
			d := api.UDP{Src: r.IntN(65536), Dst: r.IntN(65536), Data: drawnText(r, r.IntN(100))}
			want, wantErrno := modelBuild(ends[0], ends[1], d)
			checkBuild(t, "drawn", ends[0], ends[1], d, want, wantErrno)
			checkParse(t, "drawn", ends[0], ends[1], want+drawnText(r, r.IntN(10)), d, api.OK)
		}
	}
}

func TestDrawnBytes(t *testing.T) {
	came := map[api.Errno]int{}
	for seed := range uint64(30) {
		r := rand.New(rand.NewPCG(16, 100+seed))
		for range 1000 {
			ends := pairs[r.IntN(len(pairs))]
			if r.IntN(10) == 0 {
				ends[r.IntN(2)] = []api.Addr{one, one6, mayNotBe(4 + r.IntN(12))}[r.IntN(3)]
			}
			b := drawnText(r, r.IntN(40))
			if len(b) >= 8 && r.IntN(4) > 0 {
				b = withSize(b, r.IntN(len(b)+2))
			}
			if len(b) >= 8 && r.IntN(3) > 0 {
				if n := int(b[4])*256 + int(b[5]); n >= 8 && n <= len(b) {
					b = withSum(b, []int{0, modelSum(ends[0], ends[1], b[:n])}[r.IntN(2)])
				}
			}
			want, wantErrno := modelParse(ends[0], ends[1], b)
			checkParse(t, fmt.Sprintf("%x", b), ends[0], ends[1], b, want, wantErrno)
			came[wantErrno]++
		}
	}
	for _, errno := range []api.Errno{api.OK, api.ErrArg, api.ErrShort, api.ErrLength, api.ErrCheck} {
		if came[errno] < 500 {
			t.Errorf("%d came %d times: too few to tell anything", errno, came[errno])
		}
	}
}
