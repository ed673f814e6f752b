package frag

import (
	"fmt"
	"math"
	"math/rand/v2"
	"slices"
	"testing"

	"adit/api"
	"adit/ip"
)

// P14.1

func TestSplitOfWhatMayNotBe(t *testing.T) {
	for name, spoil := range map[string]func(p *api.Packet){
		"Offset 4":     func(p *api.Packet) { p.Offset = 4 },
		"Hop 256":      func(p *api.Packet) { p.Hop = 256 },
		"Src":          func(p *api.Packet) { p.Src = api.Addr{B: [16]byte{15: 1}} },
		"versions":     func(p *api.Packet) { p.Dst.V6 = !p.Dst.V6 },
		"ID below 0":   func(p *api.Packet) { p.ID = -1 },
		"an Ext":       func(p *api.Packet) { p.Exts = []api.Ext{{Kind: 44, Body: zeros(6)}} },
		"Options of 1": func(p *api.Packet) { p.Options = "x" },
	} {
		for _, p := range []api.Packet{small(100), small6(2000), small(70000), small6(70000), small(0), small6(0)} {
			checkSplit(t, name, with(p, spoil), 1280, 0, nil, api.ErrArg)
		}
	}
	checkSplit(t, "version 4 with Cut", with(small(100), func(p *api.Packet) { p.Cut = true }), 1280, 0, nil, api.ErrArg)
	checkSplit(t, "version 6 with Still", with(small6(100), func(p *api.Packet) { p.Still = true }), 1280, 0, nil, api.ErrArg)
	checkSplit(t, "version 6 with More alone", with(small6(100), func(p *api.Packet) { p.More = true }), 1280, 0, nil, api.ErrArg)
}

func TestSplitOfMTUs(t *testing.T) {
	for _, mtu := range []int{math.MinInt, math.MinInt32, -1280, -1, 0, 1, 20, 60, 67} {
		for _, n := range []int{0, 10, 100, 65515, 70000} { // though it would fit, or is too big
			checkSplit(t, fmt.Sprint("version 4, mtu ", mtu), small(n), mtu, 0, nil, api.ErrArg)
			checkSplit(t, fmt.Sprint("version 6, mtu ", mtu), small6(n), mtu, 0, nil, api.ErrArg)
		}
	}
	for _, mtu := range []int{68, 576, 1279} {
		for _, n := range []int{0, 10, 1000, 5000, 70000} {
			checkSplit(t, fmt.Sprint("version 6, mtu ", mtu), small6(n), mtu, 0, nil, api.ErrArg)
		}
	}
	for _, mtu := range []int{68, 69, 1280, math.MaxInt32, math.MaxInt} {
		checkSplit(t, fmt.Sprint("version 4, mtu ", mtu), small(48), mtu, 0, []api.Packet{small(48)}, api.OK)
	}
	for _, mtu := range []int{1280, 1281, math.MaxInt32, math.MaxInt} {
		checkSplit(t, fmt.Sprint("version 6, mtu ", mtu), small6(1240), mtu, 0, []api.Packet{small6(1240)}, api.OK)
	}
}

func TestSplitOfNumbers(t *testing.T) {
	for _, id := range []int{math.MinInt, -1 << 32, -1, 1 << 32, 1<<32 + 5, math.MaxInt} {
		for _, n := range []int{10, 5000, 70000} {
			checkSplit(t, fmt.Sprint("version 4, id ", id), small(n), 1280, id, nil, api.ErrArg)
			checkSplit(t, fmt.Sprint("version 6, id ", id), small6(n), 1280, id, nil, api.ErrArg)
		}
	}
	for _, id := range []int{0, 1, 65536, 1<<32 - 1} {
		checkSplit(t, fmt.Sprint("version 6, id ", id), small6(10), 1280, id, []api.Packet{small6(10)}, api.OK)
		pieces := split(t, small6(2000), 1280, id)
		check(t, "pieces", shape(pieces, api.OK), "0+1232 more; 1232+768;")
		for _, p := range pieces {
			check(t, "their number", p.ID, id)
			check(t, "their Cut", p.Cut, true)
		}
		for _, p := range split(t, small(200), 68, id) {
			check(t, "version 4 keeps its own number", p.ID, 1)
			check(t, "version 4 has no Cut", p.Cut, false)
		}
	}
}

func TestSplitOfCutOnes(t *testing.T) {
	for _, n := range []int{0, 8, 2000, 70000} {
		for _, change := range []func(p *api.Packet){
			func(p *api.Packet) { p.Cut = true },
			func(p *api.Packet) { p.Cut, p.ID = true, 5 },
			func(p *api.Packet) { p.Cut, p.ID, p.More = true, 5, true },
			func(p *api.Packet) { p.Cut, p.Offset = true, 80 },
		} {
			checkSplit(t, fmt.Sprint(n, " bytes with Cut"), with(small6(n), change), 1280, 0, nil, api.ErrArg)
			checkSplit(t, fmt.Sprint(n, " bytes with Cut"), with(small6(n), change), math.MaxInt, 0, nil, api.ErrArg)
		}
	}
}

func TestSplitOfTooMuch(t *testing.T) {
	four, six := options(40), exts(8, 2048)
	for _, mtu := range []int{1280, 65535, 70000, math.MaxInt} {
		checkSplit(t, "version 4", small(65516), mtu, 0, nil, api.ErrBig)
		checkSplit(t, "version 4 with Options", with(small(65476), four), mtu, 0, nil, api.ErrBig)
		checkSplit(t, "version 6", small6(65536), mtu, 0, nil, api.ErrBig)
		checkSplit(t, "version 6 with Exts", with(small6(65535-2056+1), six), mtu, 0, nil, api.ErrBig)
	}
	checkAlone(t, "version 4", small(65515), 65535)
	checkAlone(t, "version 4 with Options", with(small(65475), four), 65535)
	checkAlone(t, "version 6", small6(65535), 65575)
	checkAlone(t, "version 6 with Exts", with(small6(65535-2056), six), 65575)
	// the greatest ones, cut
	check(t, "version 4", shape(Split(small(65515), 65534, 0)), "0+65512 more; 65512+3;")
	check(t, "version 6", shape(Split(small6(65535), 65574, 0)), "0+65520 more; 65520+15;")
}

func TestSplitOfWhatIsShort(t *testing.T) {
	for n := 40; n <= 60; n++ {
		p := small(n)
		if n <= 48 {
			checkAlone(t, fmt.Sprint(n, " bytes"), p, 68)
			checkAlone(t, fmt.Sprint(n, " bytes with Still"), with(p, still), 68)
			continue
		}
		check(t, fmt.Sprint(n, " bytes"), shape(Split(p, 68, 0)), fmt.Sprintf("0+48 more; 48+%d;", n-48))
		checkSplit(t, fmt.Sprint(n, " bytes with Still"), with(p, still), 68, 0, nil, api.ErrBig)
	}
	for n := 1230; n <= 1250; n++ {
		if p := small6(n); n <= 1240 { // no room for what Cut adds, and no need of it
			checkAlone(t, fmt.Sprint(n, " bytes of version 6"), p, 1280)
		} else {
			check(t, fmt.Sprint(n, " bytes of version 6"), shape(Split(p, 1280, 0)), fmt.Sprintf("0+1232 more; 1232+%d;", n-1232))
		}
	}
	checkAlone(t, "a piece", with(small(48), at(800), more), 68)
	checkAlone(t, "no Payload", small(0), 68)
	checkAlone(t, "no Payload, of version 6", small6(0), 1280)
}

// What fits behind the header is rounded down, whatever the rest is.
func TestSplitLengths(t *testing.T) {
	for mtu := 68; mtu <= 100; mtu++ {
		for long := 0; long <= 40; long += 4 {
			room := (mtu - 20 - long) / 8 * 8
			for _, many := range []int{1, 2, 3, 7} {
				for rest := 1; rest <= room; rest += 7 {
					p := with(small(many*room+rest), options(long))
					if ip.Size(p) <= mtu {
						continue
					}
					want := ""
					for i := range many {
						want += fmt.Sprintf("%d+%d more; ", i*room, room)
					}
					want += fmt.Sprintf("%d+%d;", many*room, rest)
					what := fmt.Sprint("mtu ", mtu, ", Options of ", long, ", ", len(p.Payload), " bytes")
					check(t, what, shape(Split(p, mtu, 0)), want)
				}
			}
		}
	}
}

func TestSplitWithoutRoom(t *testing.T) {
	for _, c := range []struct {
		sizes []int
		mtu   int
		room  int
	}{
		{[]int{1224}, 1280, 8},
		{[]int{1224}, 1287, 8},
		{[]int{1232}, 1280, 0},
		{[]int{1232}, 1287, 0},
		{[]int{1232}, 1288, 8},
		{[]int{1240}, 1280, 0},
		{[]int{2048}, 1280, 0},
		{[]int{2048, 2048, 2048, 2048}, 1280, 0},
		{[]int{2048, 2048, 2048, 2048}, 8247, 0},
		{[]int{2048, 2048, 2048, 2048}, 8248, 8},
		{[]int{2048, 2048, 2048, 2048}, 8255, 8},
		{[]int{2048, 2048, 2048, 2048}, 8256, 16},
	} {
		what := fmt.Sprint("Exts ", c.sizes, ", mtu ", c.mtu)
		p := with(small6(100), exts(c.sizes...))
		if c.room == 0 {
			checkSplit(t, what, p, c.mtu, 3, nil, api.ErrBig)
			continue
		}
		pieces := split(t, p, c.mtu, 3)
		check(t, what, len(pieces), (100+c.room-1)/c.room)
		check(t, what, len(pieces[0].Payload), c.room)
	}
	checkSplit(t, "a header alone that is too long", with(small6(0), exts(2048)), 1280, 3, nil, api.ErrBig)
}

func TestSplitOffsets(t *testing.T) {
	check(t, "of a piece", shape(Split(with(small(100), at(800), more), 68, 0)), "800+48 more; 848+48 more; 896+4 more;")
	check(t, "of the last one", shape(Split(with(small(100), at(800)), 68, 0)), "800+48 more; 848+48 more; 896+4;")
	check(t, "up to 65528", shape(Split(with(small(49), at(65528-48)), 68, 0)), "65480+48 more; 65528+1;")
	check(t, "up to 65528, the last one is long", shape(Split(with(small(96), at(65528-48)), 68, 0)), "65480+48 more; 65528+48;")
	for _, p := range []api.Packet{
		with(small(49), at(65528)),
		with(small(49), at(65528), more),
		with(small(49), at(65528-40)),
		with(small(97), at(65528-48)),
		with(small(65515), at(65528)),
		with(small(60000), at(6000)),
	} {
		checkSplit(t, "beyond 65528", p, 68, 0, nil, api.ErrBig)
	}
	checkAlone(t, "at 65528, but short", with(small(48), at(65528), more), 68)
}

func TestSplitKeepsTheHeader(t *testing.T) {
	four := with(small(500), options(12), func(p *api.Packet) { p.Proto, p.Hop, p.Class, p.ID = 99, 7, 8, 65535 })
	six := with(small6(5000), exts(8, 16, 24), func(p *api.Packet) { p.Proto, p.Hop, p.Class, p.Flow = 99, 7, 8, 1048575 })
	for mtu, p := range map[int]api.Packet{100: four, 1280: six} {
		for _, q := range split(t, p, mtu, 5) {
			want := with(p, payload(q.Payload), func(w *api.Packet) {
				w.Offset, w.More = q.Offset, q.More
				if w.Src.V6 {
					w.Cut, w.ID = true, 5
				}
			})
			if !equal(q, want) {
				t.Errorf("a piece: %s, want %s", brief(q), brief(want))
			}
		}
	}
}

func TestDrawnSplits(t *testing.T) {
	r := rand.New(rand.NewPCG(14, 1))
	many := 0
	for range 20000 {
		p, mtu, id := drawnPacket(r), 68+r.IntN(300), r.IntN(1<<20)
		if p.Src.V6 {
			mtu = 1280 + r.IntN(300)
		}
		switch r.IntN(60) {
		case 0:
			p.Offset = r.IntN(70000)
		case 1:
			mtu -= r.IntN(300)
		case 2:
			id = -id
		case 3:
			p.Cut = true
		case 4:
			p.Still = true
		}
		want, errno := modelSplit(p, mtu, id)
		checkSplit(t, fmt.Sprint(brief(p), " by ", mtu), p, mtu, id, want, errno)
		if len(want) > 1 {
			many++
		}
	}
	if many < 5000 {
		t.Errorf("only %d were cut: too few to tell anything", many)
	}
}

func TestSplitSharesNoMemory(t *testing.T) {
	for _, n := range []int{100, 5000} {
		p := with(small6(n), exts(8, 16))
		before := slices.Clone(p.Exts)
		pieces := split(t, p, 1280, 1)
		pieces[0].Exts[0].Body = "changed"
		_ = append(pieces[0].Exts[:1], api.Ext{Kind: 1})
		check(t, "what was handed in stays", slices.Equal(p.Exts, before), true)
		for _, q := range pieces[1:] {
			check(t, "so do the other pieces", slices.Equal(q.Exts, before), true)
		}
		pieces = split(t, p, 1280, 1)
		p.Exts[1].Kind = 99
		for _, q := range pieces {
			check(t, "what was told stays", slices.Equal(q.Exts, before), true)
		}
	}
}

func split(t *testing.T, p api.Packet, mtu, id int) []api.Packet {
	t.Helper()
	pieces, errno := Split(p, mtu, id)
	if errno != api.OK {
		t.Fatalf("Split of %s by %d: %v", brief(p), mtu, errno)
	}
	return pieces
}

func checkSplit(t *testing.T, what string, p api.Packet, mtu, id int, want []api.Packet, wantErrno api.Errno) {
	t.Helper()
	got, errno := Split(p, mtu, id)
	if errno != wantErrno || !slices.EqualFunc(got, want, equal) {
		t.Errorf("%s: %s %v, want %s %v", what, shape(got, api.OK), errno, shape(want, api.OK), wantErrno)
	}
}

// checkAlone asks that a packet is told alone, by that mtu and by the greatest one.
func checkAlone(t *testing.T, what string, p api.Packet, mtu int) {
	t.Helper()
	checkSplit(t, what, p, mtu, 9, []api.Packet{p}, api.OK)
	checkSplit(t, what, p, math.MaxInt, 9, []api.Packet{p}, api.OK)
}
