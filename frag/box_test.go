package frag

import (
	"fmt"
	"math"
	"math/rand/v2"
	"slices"
	"strings"
	"testing"

	"adit/api"
	"adit/ip"
	"adit/wire"
)

// P14.2: whole ones, and what is dropped

func TestWholeOnes(t *testing.T) {
	e := newBoth(t)
	e.take(5, one, piece4(0, 8, more))
	for name, p := range map[string]api.Packet{
		"version 4":                   with(small(10), still, options(8)),
		"version 4, no Payload":       small(0),
		"version 4, more than fits":   small(70000),
		"the number of a heap":        with(small(10), number(1)),
		"version 6":                   with(small6(10), exts(8, 16)),
		"version 6, more than fits":   small6(70000),
		"version 6, a length of no 8": small6(3),
	} {
		checkTake(t, name, e.b, 6, one, p, p)
		checkBox(t, name, e.b, 1, 8, 30005)
	}
	for _, n := range []int{0, 3, 8, 70000} {
		want := with(small6(n), exts(24))
		whole := with(want, func(p *api.Packet) { p.Cut, p.ID = true, 1<<32-1 })
		checkTake(t, fmt.Sprint("Cut, ", n, " bytes"), e.b, 6, one, whole, want)
		checkBox(t, "Cut", e.b, 1, 8, 30005)
	}
}

func TestTakeOfWhatMayNotBe(t *testing.T) {
	b := New()
	checkNothing(t, "one that may", b, 10, one, piece4(0, 8, more))
	for name, spoil := range map[string]func(p *api.Packet){
		"Offset 4":     at(4),
		"Offset 65536": at(65536),
		"Offset -8":    at(-8),
		"ID":           number(65536),
		"Options":      func(p *api.Packet) { p.Options = "x" },
		"versions":     func(p *api.Packet) { p.Dst = addr6(1) },
		"Cut":          func(p *api.Packet) { p.Cut = true },
		"Hop":          func(p *api.Packet) { p.Hop = -1 },
	} {
		checkNothing(t, name, b, 20, one, piece4(8, 8, spoil))
		checkNothing(t, name, b, 20, one, piece4(0, 8, more, spoil))
		checkNothing(t, name, b, 20, one, with(small(8), spoil, func(p *api.Packet) { p.Class = 256 }))
		checkBox(t, name, b, 1, 8, 30010)
	}
	checkNothing(t, "of version 6, without Cut", b, 20, one, piece6(8, 8, func(p *api.Packet) { p.Cut, p.ID = false, 0 }))
	checkBox(t, "of version 6, without Cut", b, 1, 8, 30010)
	checkNothing(t, "it tells the time", b, 30010, one, with(small(8), at(4)))
	checkBox(t, "late heaps go first", b, 0, 0, -1)
	checkNothing(t, "the time stays told", b, 20, one, piece4(0, 8, more))
	checkBox(t, "the time stays told", b, 1, 8, 60010)
}

func TestDroppedPieces(t *testing.T) {
	for _, waits := range []bool{false, true} {
		e := newBoth(t)
		heaps, held, next := 0, 0, -1
		if waits {
			e.take(0, one, piece4(80, 16, more))
			heaps, held, next = 1, 16, 30000
		}
		dropped := []api.Packet{
			piece4(0, 0, more), piece4(8, 0), piece4(88, 0, more), piece4(96, 0), piece4(65528, 0),
			piece4(65528, 8), piece4(65528, 8, more), piece4(65528, 65535), piece4(80, 65456, more), piece4(80, 65456),
			piece4(0, 65536, more), piece4(0, 70000, more), piece4(8, 65528, more),
		}
		for size := range 40 {
			if size%8 != 0 {
				dropped = append(dropped, piece4(0, size, more), piece4(80, size, more), piece4(96, size, more))
			}
		}
		for _, p := range dropped {
			_, ok := e.take(0, one, p)
			check(t, brief(p), ok, false)
			checkBox(t, brief(p), e.b, heaps, held, next)
		}
	}
}

func TestReachUpTo65535(t *testing.T) {
	for _, p := range []api.Packet{piece4(65528, 7), piece4(65520, 8, more), piece4(0, 65528, more), piece4(8, 65527), piece6(65528, 7), piece6(65520, 15)} {
		b := New()
		checkNothing(t, brief(p), b, 0, one, p)
		checkBox(t, brief(p), b, 1, len(p.Payload), 30000)
	}
}

// P14.2: what belongs together

func TestWhatBelongsTogether(t *testing.T) {
	apart := map[string]func(tag *api.Tag, p *api.Packet){
		"Peer":  func(tag *api.Tag, p *api.Packet) { tag.Peer++ },
		"Epoch": func(tag *api.Tag, p *api.Packet) { tag.Epoch++ },
		"Src":   func(tag *api.Tag, p *api.Packet) { p.Src.B[3]++ },
		"Dst":   func(tag *api.Tag, p *api.Packet) { p.Dst.B[3]++ },
		"Proto": func(tag *api.Tag, p *api.Packet) { p.Proto++ },
		"ID":    func(tag *api.Tag, p *api.Packet) { p.ID++ },
	}
	firsts := []api.Packet{piece4(0, 8, more), piece6(0, 8, more)}
	lasts := []api.Packet{piece4(8, 8), piece6(8, 8)}
	for i := range firsts {
		for name, change := range apart {
			e := newBoth(t)
			e.take(0, one, firsts[i])
			tag, last := one, lasts[i]
			change(&tag, &last)
			_, ok := e.take(0, tag, last)
			check(t, "another "+name, ok, false)
			checkBox(t, "another "+name, e.b, 2, 16, 30000)
			p, ok := e.take(0, one, lasts[i])
			check(t, "its own", fmt.Sprint(ok, p.Payload == text(16), e.b.Waiting()), "true true 1")
		}
	}
	e := newBoth(t)
	e.take(0, one, firsts[0])
	e.take(0, one, firsts[1])
	checkBox(t, "two versions", e.b, 2, 16, 30000)
}

// All other fields may be different: those of the piece at 0 are told, whichever came first.
func TestFieldsOfThePieceAt0(t *testing.T) {
	head4 := func(p *api.Packet) { p.Hop, p.Class, p.Options, p.Still = 1, 2, text(8), true }
	head6 := func(p *api.Packet) { p.Hop, p.Class, p.Flow = 1, 2, 3; exts(8, 24)(p) }
	other6 := func(p *api.Packet) { p.Hop, p.Class, p.Flow = 4, 5, 6; exts(16)(p) }
	for _, c := range []struct{ first, last, want api.Packet }{
		{piece4(0, 16, more, head4), piece4(16, 5), with(small(21), head4)},
		{piece4(0, 16, more), piece4(16, 5, head4), small(21)},
		{piece6(0, 16, more, head6), piece6(16, 5), with(small6(21), head6)},
		{piece6(0, 16, more, head6), piece6(16, 5, other6), with(small6(21), head6)},
		{piece6(0, 16, more), piece6(16, 5, other6), small6(21)},
	} {
		b := New()
		checkNothing(t, "the first one", b, 0, one, c.first)
		checkTake(t, "the last one behind it", b, 0, one, c.last, c.want)
		checkNothing(t, "the last one", b, 0, one, c.last)
		checkTake(t, "the first one behind it", b, 0, one, c.first, c.want)
		checkBox(t, "told", b, 0, 0, -1)
		check(t, "what is told may be", ip.Right(c.want), true)
	}
}

func TestTheSamePieceAgain(t *testing.T) {
	e := newBoth(t)
	pieces := []api.Packet{piece4(16, 8, more), piece4(40, 3), piece4(0, 8, more), piece4(24, 16, more)}
	for i, p := range pieces {
		for _, again := range pieces[:i+1] {
			e.take(i, one, p)
			e.take(i, one, again)
			e.take(i, one, with(again, func(p *api.Packet) { p.Hop, p.Class, p.Options = 9, 9, text(4) }))
		}
	}
	checkBox(t, "each once", e.b, 1, 8+3+8+16, 30000)
	checkTake(t, "and the one that was missing", e.b, 5, one, piece4(8, 8, more), small(43))
}

// P14.2: what lets the whole heap go

func TestWhatLetsAHeapGo(t *testing.T) {
	middle := []api.Packet{piece4(24, 16, more)}
	ended := []api.Packet{piece4(24, 16, more), piece4(64, 5)}
	turned := strings.Repeat("z", 16)
	for name, c := range map[string]struct {
		there []api.Packet
		came  api.Packet
		goes  bool
	}{
		"the same bytes without More":         {middle, piece4(24, 16), true},
		"other bytes":                         {middle, piece4(24, 16, more, payload(turned)), true},
		"a beginning of it":                   {middle, piece4(24, 8, more), true},
		"its end":                             {middle, piece4(32, 8, more), true},
		"around it":                           {middle, piece4(16, 32, more), true},
		"over its first eight":                {middle, piece4(16, 16, more), true},
		"over its last eight":                 {middle, piece4(32, 16, more), true},
		"over its last eight, without More":   {middle, piece4(32, 9), true},
		"just ahead":                          {middle, piece4(16, 8, more), false},
		"just behind":                         {middle, piece4(40, 8, more), false},
		"just behind, one byte, the end":      {middle, piece4(40, 1), false},
		"an end ahead of it":                  {middle, piece4(8, 8), true},
		"an end just ahead of it":             {middle, piece4(16, 8), true},
		"an end of one byte ahead of it":      {middle, piece4(8, 1), true},
		"beyond the end":                      {ended, piece4(72, 8, more), true},
		"beyond the end, with a gap":          {ended, piece4(80, 8, more), true},
		"over the end":                        {ended, piece4(64, 8, more), true},
		"a second end behind":                 {ended, piece4(72, 8), true},
		"a second end ahead":                  {ended, piece4(40, 8), true},
		"a second end ahead, of one byte":     {ended, piece4(56, 1), true},
		"the end, with More":                  {ended, piece4(64, 5, func(p *api.Packet) { p.Offset, p.More, p.Payload = 64, true, text(8) }), true},
		"the end, a byte less":                {ended, piece4(64, 4), true},
		"the end, a byte more":                {ended, piece4(64, 6), true},
		"up to the end":                       {ended, piece4(40, 24, more), false},
		"over the end's first byte":           {ended, piece4(48, 24, more), true},
		"ahead of all":                        {ended, piece4(0, 24, more), false},
		"all of it":                           {ended, piece4(8, 61), true},
		"ahead of one that ends":              {[]api.Packet{piece4(64, 5)}, piece4(56, 8, more), false},
		"as far as one that ends":             {[]api.Packet{piece4(64, 8)}, piece4(64, 8, more), true},
		"behind the greatest, the end":        {[]api.Packet{piece4(64, 8, more), piece4(8, 8, more)}, piece4(72, 1), false},
		"between two, the end":                {[]api.Packet{piece4(64, 8, more), piece4(8, 8, more)}, piece4(32, 1), true},
		"between two, up to the greatest one": {[]api.Packet{piece4(64, 8, more), piece4(8, 8, more)}, piece4(56, 8), true},
	} {
		for _, order := range [][]api.Packet{c.there, reversed(c.there)} {
			e := newBoth(t)
			e.take(0, two, piece4(0, 8, more)) // which stays, whatever becomes of the other one
			for _, p := range order {
				e.take(1, one, p)
			}
			check(t, name+": ahead", e.b.Waiting(), 2)
			_, ok := e.take(2, one, c.came)
			check(t, name+": told", ok, false)
			check(t, name, e.b.Waiting() == 1, c.goes)
			if c.goes {
				checkBox(t, name, e.b, 1, 8, 30000)
			}
		}
	}
}

// What goes with its heap begins no new one, and what was of it is forgotten.
func TestBehindAHeapThatWent(t *testing.T) {
	e := newBoth(t)
	e.take(0, one, piece4(0, 16, more))
	e.take(0, one, piece4(8, 16, more))
	checkBox(t, "both went", e.b, 0, 0, -1)
	e.take(7, one, piece4(24, 8))
	checkBox(t, "a new one", e.b, 1, 8, 30007)
	e.take(7, one, piece4(8, 16, more))
	p, ok := e.take(7, one, piece4(0, 8, more))
	check(t, "all of it", fmt.Sprint(ok, p.Payload == text(32)), "true true")
}

func TestMostPieces(t *testing.T) {
	for _, many := range []int{63, 64, 65, 66} {
		for _, order := range []string{"first to last", "last to first", "any"} {
			e := newBoth(t)
			pieces := eights(many)
			switch order {
			case "last to first":
				slices.Reverse(pieces)
			case "any":
				rand.New(rand.NewPCG(14, 64)).Shuffle(many, func(i, j int) { pieces[i], pieces[j] = pieces[j], pieces[i] })
			}
			var p api.Packet
			tells := 0
			for _, q := range pieces {
				if whole, ok := e.take(0, one, q); ok {
					p, tells = whole, tells+1
				}
			}
			what := fmt.Sprint(many, " pieces, ", order)
			if many <= 64 {
				check(t, what, fmt.Sprint(tells, p.Payload == text(8*many), e.b.Waiting()), "1 true 0")
			} else {
				check(t, what, fmt.Sprint(tells, e.b.Waiting(), e.b.Held()), fmt.Sprint(0, b2i(many > 65), 8*(many-65)))
			}
		}
	}
}

func TestTheSameAmongMostPieces(t *testing.T) {
	e := newBoth(t)
	pieces := eights(65)
	for _, p := range pieces[:64] {
		e.take(0, one, p)
	}
	checkBox(t, "64 pieces", e.b, 1, 512, 30000)
	for _, p := range pieces[:64] {
		e.take(0, one, p)
	}
	checkBox(t, "the same again", e.b, 1, 512, 30000)
	e.take(0, one, pieces[64])
	checkBox(t, "one too many", e.b, 0, 0, -1)
}

// P14.2: the heaps that there are at one time

func TestMostHeaps(t *testing.T) {
	e := newBoth(t)
	for i := range 8 {
		e.take(i, one, piece4(0, 8, more, number(i)))
	}
	e.take(8, one, piece4(8, 8, more, number(0))) // it still began first
	checkBox(t, "eight heaps", e.b, 8, 72, 30000)
	e.take(9, one, piece4(8, 8, number(8)))
	checkBox(t, "the first one went", e.b, 8, 64, 30001)
	_, ok := e.take(10, one, piece4(16, 8, number(0)))
	check(t, "it is forgotten", ok, false)
	checkBox(t, "the second one went", e.b, 8, 64, 30002)
	for i := 2; i <= 7; i++ {
		_, ok = e.take(11, one, piece4(8, 8, number(i)))
		check(t, fmt.Sprint("number ", i), ok, true)
	}
	checkBox(t, "those that began last", e.b, 2, 16, 30009)
}

// Of several that began at one time it is the one that came first.
func TestMostHeapsAtOneTime(t *testing.T) {
	for range 20 { // a map has another order each time
		e := newBoth(t)
		order := rand.New(rand.NewPCG(14, 8)).Perm(20)
		for i, id := range order {
			e.take(3, one, piece4(0, 8, more, number(id)))
			if i >= 8 {
				checkBox(t, "full", e.b, 8, 64, 30003)
			}
		}
		for i, id := range order[12:] {
			_, ok := e.take(3, one, piece4(8, 8, number(id)))
			check(t, fmt.Sprint("the last ones are there, ", i), ok, true)
		}
		checkBox(t, "all told", e.b, 0, 0, -1)
	}
}

func TestOnlyWhatBeginsTakesRoom(t *testing.T) {
	e := newBoth(t)
	for i := range 8 {
		e.take(0, one, piece4(0, 8, more, number(i)))
	}
	e.take(0, one, small(8))
	e.take(0, one, with(small(8), number(99)))
	e.take(0, one, piece4(0, 7, more, number(99)))
	e.take(0, one, piece4(8, 0, number(99)))
	e.take(0, one, piece4(65528, 8, number(99)))
	e.take(0, one, piece4(0, 8, more, number(5)))
	e.take(0, one, with(piece4(8, 8, number(99)), at(4)))
	checkBox(t, "none went", e.b, 8, 64, 30000)
	e.take(0, one, piece4(0, 8, number(5), more, payload("another!")))
	checkBox(t, "one went by itself", e.b, 7, 56, 30000)
	e.take(0, one, piece4(0, 8, more, number(99)))
	checkBox(t, "there was room", e.b, 8, 64, 30000)
	_, ok := e.take(0, one, piece4(8, 8, number(0)))
	check(t, "the first one is there", ok, true)
}

func TestLateHeapsMakeRoom(t *testing.T) {
	e := newBoth(t)
	e.take(0, one, piece4(0, 8, more, number(0)))
	for i := 1; i < 8; i++ {
		e.take(100, one, piece4(0, 8, more, number(i)))
	}
	e.take(30000, one, piece4(0, 8, more, number(8)))
	checkBox(t, "the late one went, and no other", e.b, 8, 64, 30100)
}

// P14.2: the packet that is told

func TestGaps(t *testing.T) {
	for _, order := range [][]int{{0, 2, 1}, {2, 0, 1}, {0, 1, 2}, {1, 0, 2}, {1, 2, 0}, {2, 1, 0}} {
		e := newBoth(t)
		pieces := []api.Packet{piece4(0, 8, more), piece4(8, 24, more), piece4(32, 1)}
		for i, n := range order {
			_, ok := e.take(0, one, pieces[n])
			check(t, fmt.Sprint(order, ", ", i), ok, i == 2)
		}
	}
}

func TestWhatDoesNotFit(t *testing.T) {
	for name, c := range map[string]struct {
		first, last api.Packet
		fits        bool
	}{
		"version 4":                         {piece4(0, 65512, more), piece4(65512, 3), true},
		"version 4, a byte more":            {piece4(0, 65512, more), piece4(65512, 4), false},
		"version 4, the most":               {piece4(0, 65528, more), piece4(65528, 7), false},
		"version 4, Options":                {piece4(0, 65472, more, options(40)), piece4(65472, 3), true},
		"version 4, Options, a byte more":   {piece4(0, 65472, more, options(40)), piece4(65472, 4), false},
		"version 4, Options of the last":    {piece4(0, 65512, more), piece4(65512, 3, options(40)), true},
		"version 4, Options of the last, 4": {piece4(0, 65512, more), piece4(65512, 4, options(40)), false},
		"version 6":                         {piece6(0, 65528, more), piece6(65528, 7), true},
		"version 6, Exts":                   {piece6(0, 65520, more, exts(8)), piece6(65520, 7), true},
		"version 6, Exts, a byte more":      {piece6(0, 65520, more, exts(8)), piece6(65520, 8), false},
		"version 6, Exts of the last":       {piece6(0, 65528, more), piece6(65528, 7, exts(8)), true},
	} {
		for _, order := range [][]api.Packet{{c.first, c.last}, {c.last, c.first}} {
			e := newBoth(t)
			e.take(0, two, piece4(0, 8, more))
			_, ok := e.take(0, one, order[0])
			check(t, name+", the first to come", ok, false)
			p, ok := e.take(0, one, order[1])
			check(t, name, ok, c.fits)
			if c.fits {
				check(t, name+", its Payload", p.Payload == text(len(c.first.Payload)+len(c.last.Payload)), true)
			}
			checkBox(t, name+": the heap goes", e.b, 1, 8, 30000)
		}
	}
}

func TestTakeSharesNoMemory(t *testing.T) {
	pieces := split(t, with(small6(2000), exts(8, 16)), 1280, 5)
	body := pieces[0].Exts[0].Body
	b := New()
	b.Take(0, one, pieces[0])
	pieces[0].Exts[0].Body = "changed"
	p, ok := b.Take(0, one, pieces[1])
	check(t, "told", ok, true)
	check(t, "what was handed in may be changed", p.Exts[0].Body, body)
	p.Exts[1].Body = "changed"
	check(t, "what was told may be changed", pieces[1].Exts[1].Body, text(14))

	whole := with(small6(20), exts(8, 16))
	p, _ = b.Take(0, one, whole)
	p.Exts[0].Body = "changed"
	check(t, "a whole one stays", whole.Exts[0].Body, body)
}

// P14.3

func TestLateHeaps(t *testing.T) {
	e := newBoth(t)
	e.take(100, one, piece4(0, 8, more, number(1)))
	e.take(200, one, piece4(0, 8, more, number(2)))
	e.take(200, one, piece4(0, 8, more, number(3)))
	e.take(300, one, piece4(8, 8, more, number(1))) // its time is that of its first piece
	checkBox(t, "three", e.b, 3, 32, 30100)
	check(t, "nobody is late", e.tick(30099), 0)
	check(t, "one is", e.tick(30100), 1)
	checkBox(t, "two are left", e.b, 2, 16, 30200)
	check(t, "no more", e.tick(30199), 0)
	check(t, "two are", e.tick(30200), 2)
	checkBox(t, "none is left", e.b, 0, 0, -1)
	check(t, "none", e.tick(1<<50), 0)
}

func TestTakeOfALatePiece(t *testing.T) {
	for late, want := range map[int]bool{29999: true, 30000: false, 30001: false, math.MaxInt: false} {
		e := newBoth(t)
		e.take(0, one, piece4(0, 8, more))
		p, ok := e.take(late, one, piece4(8, 8))
		check(t, fmt.Sprint("late by ", late), fmt.Sprint(ok, len(p.Payload)), fmt.Sprint(want, 16*b2i(want)))
		check(t, fmt.Sprint("late by ", late), e.b.Waiting(), b2i(!want))
	}
	for name, p := range map[string]api.Packet{"a whole one": small(8), "one that is dropped": piece4(8, 0), "the same": piece4(0, 8, more)} {
		e := newBoth(t)
		e.take(0, one, piece4(0, 8, more))
		e.take(0, two, piece4(0, 8, more))
		e.take(30000, one, p)
		check(t, name, e.b.Waiting(), b2i(name == "the same"))
	}
}

func TestTimeDoesNotGoBack(t *testing.T) {
	e := newBoth(t)
	e.tick(-5)
	e.take(math.MinInt, one, piece4(0, 8, more, number(1)))
	checkBox(t, "ahead of 0", e.b, 1, 8, 30000)
	e.tick(1000)
	e.take(10, one, piece4(0, 8, more, number(2)))
	checkBox(t, "an earlier time", e.b, 2, 16, 30000)
	check(t, "an earlier time", e.tick(29999), 0)
	check(t, "one is late", e.tick(30000), 1)
	check(t, "an earlier time", e.tick(-1), 0)
	checkBox(t, "the second came at 1000", e.b, 1, 8, 31000)
	e.take(31000, two, small(8)) // any Take tells the time
	checkBox(t, "none is left", e.b, 0, 0, -1)
}

func TestLatestTime(t *testing.T) {
	for _, now := range []int{1 << 62, 1<<62 + 1, math.MaxInt} {
		e := newBoth(t)
		e.take(1<<62-30000, one, piece4(0, 8, more, number(1)))
		e.take(1<<62-29999, one, piece4(0, 8, more, number(2)))
		checkBox(t, "just ahead", e.b, 2, 16, 1<<62)
		check(t, fmt.Sprint("one is late at ", now), e.tick(now), 1)
		e.take(now, one, piece4(0, 8, more, number(3)))
		checkBox(t, "at the latest time", e.b, 2, 16, 1<<62+1)
		check(t, "time stands still", e.tick(math.MaxInt), 0)
		_, ok := e.take(math.MaxInt, one, piece4(8, 8, number(3)))
		check(t, "and pieces are taken", ok, true)
		_, ok = e.take(5, one, piece4(8, 8, number(2)))
		check(t, "and pieces are taken", ok, true)
		checkBox(t, "none is left", e.b, 0, 0, -1)
	}
}

func TestNoBox(t *testing.T) {
	var none *Box
	checkNothing(t, "nil: a piece", none, 1, one, piece4(0, 8, more))
	checkNothing(t, "nil: a whole one", none, 1, one, small(8))
	check(t, "nil: Tick", none.Tick(99), 0)
	checkBox(t, "nil", none, 0, 0, 0)

	var zero Box
	checkBox(t, "zero", &zero, 0, 0, -1)
	check(t, "zero: Tick", zero.Tick(7), 0)
	checkTake(t, "zero", &zero, 5, one, small(8), small(8))
	checkNothing(t, "zero", &zero, 5, one, piece4(8, 8))
	checkBox(t, "zero", &zero, 1, 8, 30007)
	checkTake(t, "zero", &zero, 9, one, piece4(0, 8, more), small(16))

	if New() == nil {
		t.Fatal("New is nil")
	}
	checkBox(t, "New", New(), 0, 0, -1)
}

// P14.4

// Pieces come in any order, some again, with pieces of other tags among them: the last one that is missing tells the packet.
func TestPiecesInAnyOrder(t *testing.T) {
	r := rand.New(rand.NewPCG(14, 4))
	cuts := 0
	for range 4000 {
		p, mtu := drawnPacket(r), 68+r.IntN(200)
		if p.Src.V6 {
			mtu = 1280 + r.IntN(100)
		}
		pieces, errno := Split(p, mtu, r.IntN(1<<32))
		if errno != api.OK || len(pieces) > 64 {
			continue
		}
		for _, q := range pieces {
			check(t, "it may be", ip.Right(q), true)
			check(t, "it has at most mtu bytes", ip.Size(q) <= mtu, true)
		}
		cuts += b2i(len(pieces) > 1)
		takeShuffled(t, r, p, pieces)
	}
	if cuts < 1500 {
		t.Errorf("only %d were cut: too few to tell anything", cuts)
	}
}

func takeShuffled(t *testing.T, r *rand.Rand, p api.Packet, pieces []api.Packet) {
	t.Helper()
	b, now := New(), 0
	order := r.Perm(len(pieces))
	for i, n := range order {
		now += r.IntN(400)
		if i > 0 && r.IntN(3) == 0 {
			checkNothing(t, "one that came before", b, now, one, pieces[order[r.IntN(i)]])
		}
		if len(pieces) > 1 && r.IntN(3) == 0 && i < 6 { // few enough that no heap goes for them
			checkNothing(t, "a piece of another tag", b, now, api.Tag{Peer: 1, Epoch: 3 + i}, pieces[r.IntN(len(pieces))])
		}
		if i < len(order)-1 {
			checkNothing(t, "one is missing", b, now, one, pieces[n])
		} else {
			checkTake(t, "the last one that was missing", b, now, one, pieces[n], p)
		}
	}
}

func TestMostBytes(t *testing.T) {
	b := New()
	for i := range 20 {
		checkNothing(t, "a great piece", b, 0, one, piece4(0, 65528, more, number(i)))
	}
	checkBox(t, "eight of them", b, 8, 8*65528, 30000)
	for i := 12; i < 20; i++ {
		checkNothing(t, "the packet does not fit", b, 0, one, piece4(65528, 7, number(i)))
	}
	checkBox(t, "all of them went", b, 0, 0, -1)
}

// Drawn pieces of a few packets, near each other and near the edges, and drawn times: all is told as the model tells it.
func TestDrawnPieces(t *testing.T) {
	tells, goes := 0, 0
	for seed := range uint64(120) {
		r := rand.New(rand.NewPCG(14, seed))
		e, now := newBoth(t), 0
		for range 800 {
			now = drawnTime(r, now)
			before := e.b.Waiting()
			if r.IntN(40) == 0 {
				e.tick(now - r.IntN(50))
				continue
			}
			_, ok := e.take(now-r.IntN(50), api.Tag{Peer: 1, Epoch: r.IntN(2)}, drawnPiece(r, int(seed%3)))
			tells += b2i(ok)
			goes += b2i(!ok && e.b.Waiting() < before)
		}
	}
	if tells < 2000 || goes < 2000 {
		t.Errorf("%d told, %d gone: too few to tell anything", tells, goes)
	}
}

func drawnTime(r *rand.Rand, now int) int {
	switch r.IntN(100) {
	case 0:
		return now + 30000
	case 1:
		return now + 29999
	case 2, 3, 4, 5:
		return now + r.IntN(20000)
	}
	return now + r.IntN(100)
}

// drawnPiece is one of few packets, of few eights: the kind says how many packets there are.
func drawnPiece(r *rand.Rand, kind int) api.Packet {
	id := r.IntN([]int{1, 4, 12}[kind])
	offset, size := 8*r.IntN(5), 8*(1+r.IntN(2))
	change := func(p *api.Packet) {
		p.ID, p.More = id, r.IntN(4) > 0
		switch r.IntN(25) {
		case 0:
			p.Payload = p.Payload[r.IntN(8):]
		case 1:
			p.Payload = ""
		case 2:
			p.Payload = strings.Repeat("x", len(p.Payload))
		case 3:
			p.Hop = r.IntN(300)
		case 4:
			p.Offset = 65528 - 8*r.IntN(3)
		case 5:
			p.Proto = 6
		case 6:
			p.Offset, p.More = 0, false
		case 7:
			p.Src = wire.V4(10, 0, 0, 9)
		}
	}
	if offset == 32 { // an end that packets can be told by
		return piece4(32, 5, number(id))
	}
	if id%3 == 2 {
		return piece6(offset, size, change)
	}
	return piece4(offset, size, change)
}

// eights are the pieces, each of eight bytes, of a packet of so many.
func eights(many int) []api.Packet {
	var pieces []api.Packet
	for i := range many {
		pieces = append(pieces, piece4(8*i, 8, func(p *api.Packet) { p.More = i < many-1 }))
	}
	return pieces
}

func reversed(pieces []api.Packet) []api.Packet {
	pieces = slices.Clone(pieces)
	slices.Reverse(pieces)
	return pieces
}
