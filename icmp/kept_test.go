package icmp

import (
	"fmt"
	"math"
	"math/rand/v2"
	"testing"

	"adit/api"
	"adit/wire"
)

// P15.5

// allowed is how many tokens go at one time, one more asked than a bucket can have.
func allowed(b *Bucket, now int) int {
	n := 0
	for range 11 {
		n += b2i(b.Allow(now))
	}
	return n
}

func TestTokensOfATime(t *testing.T) {
	for now, want := range map[int]int{
		math.MinInt: 0, -100: 0, -1: 0, 0: 0, 1: 0, 99: 0, 100: 1, 101: 1, 199: 1, 200: 2, 299: 2, 900: 9, 999: 9, 1000: 10, 1100: 10,
		1 << 32: 10, 1 << 40: 10, 1 << 62: 10, math.MaxInt - 1: 10, math.MaxInt: 10,
	} {
		b := NewBucket()
		check(t, "at first", allowed(b, 0), 10)
		check(t, fmt.Sprint("none was left, at ", now), allowed(b, now), want)
		check(t, fmt.Sprint("none is left, at ", now), b.Allow(now), false)
	}
	for _, now := range []int{math.MinInt, -1, 0, 1, 99, 100, 5000, 1 << 62, math.MaxInt} {
		check(t, fmt.Sprint("never more than 10, at ", now), allowed(NewBucket(), now), 10)
	}
}

// Tokens come at 100, 200 and so on, whenever the bucket was asked.
func TestTokensComeAtTheirTimes(t *testing.T) {
	b := NewBucket()
	check(t, "at first", allowed(b, 50), 10)
	check(t, "at 99", b.Allow(99), false)
	check(t, "at 100", allowed(b, 100), 1)
	check(t, "at 199", allowed(b, 199), 0)
	check(t, "at 250", allowed(b, 250), 1)
	check(t, "at 299", allowed(b, 299), 0)
	check(t, "at 300", allowed(b, 300), 1)
	check(t, "at 1299", allowed(b, 1299), 9)
	check(t, "at 1300", allowed(b, 1300), 1)
	check(t, "a lesser time", allowed(b, 5), 0)
	check(t, "at 1300 again", allowed(b, 1300), 0)
	check(t, "at 1400", allowed(b, 1400), 1)
}

// A full bucket gets none: what would have come is not kept.
func TestFullBucket(t *testing.T) {
	b := NewBucket()
	check(t, "one goes at 99", b.Allow(99), true)
	check(t, "one came, and all go", allowed(b, 100), 10)
	b = NewBucket()
	check(t, "one goes at 100", b.Allow(100), true)
	check(t, "nine are left", allowed(b, 199), 9)
	b = NewBucket()
	check(t, "full at 350", b.Allow(350), true)
	check(t, "one goes at 350", b.Allow(350), true)
	check(t, "eight and one", allowed(b, 400), 9)
	check(t, "and one", allowed(b, 500), 1)
}

func TestDrawnBuckets(t *testing.T) {
	yes, no := 0, 0
	for seed := range uint64(40) {
		r := rand.New(rand.NewPCG(15, 500+seed))
		b, m, now := NewBucket(), modelBucket{tokens: 10}, 0
		for range 600 {
			if r.IntN(3) == 0 {
				now += r.IntN([]int{20, 100, 300, 3000}[r.IntN(4)])
			}
			when := now - r.IntN(2)*r.IntN(300)
			want := m.allow(when)
			check(t, fmt.Sprint("at ", when), b.Allow(when), want)
			yes, no = yes+b2i(want), no+b2i(!want)
		}
	}
	if yes < 2000 || no < 2000 {
		t.Errorf("%d allowed, %d not: too few to tell anything", yes, no)
	}
}

func TestNoBucket(t *testing.T) {
	var none *Bucket
	check(t, "nil", none.Allow(0), false)
	check(t, "nil", none.Allow(1000), false)
	var zero Bucket
	check(t, "a zero one has as many at first", allowed(&zero, 0), 10)
	check(t, "and gets more", allowed(&zero, 300), 3)
	if NewBucket() == nil {
		t.Fatal("NewBucket is nil")
	}
	a, b := NewBucket(), NewBucket()
	check(t, "one", allowed(a, 0), 10)
	check(t, "another one", allowed(b, 0), 10)
}

// P15.6

func TestLeastMTU(t *testing.T) {
	for _, c := range []struct {
		dst   api.Addr
		least int
	}{{one, 576}, {one6, 1280}} {
		for mtu, want := range map[int]int{0: c.least, 1: c.least, 575: c.least, c.least - 1: c.least, c.least: c.least, c.least + 1: c.least + 1, 1400: 1400, 65535: 65535, 65536: 65536, math.MaxInt - 1: math.MaxInt - 1} {
			e := newBoth(t)
			check(t, fmt.Sprint("Learn of ", mtu), e.learn(0, c.dst, mtu), true)
			check(t, fmt.Sprint("MTU of ", mtu), e.mtu(0, c.dst, math.MaxInt), want)
			check(t, "once more", e.learn(0, c.dst, mtu), false)
			check(t, "a greater one", e.learn(0, c.dst, want+1), false)
		}
		for _, mtu := range []int{math.MinInt, math.MinInt32, -1280, -1} {
			e := newBoth(t)
			check(t, fmt.Sprint("Learn of ", mtu), e.learn(0, c.dst, mtu), false)
			check(t, "Len", e.paths.Len(), 0)
			e.learn(0, c.dst, 1400)
			check(t, fmt.Sprint("Learn of ", mtu, " once it is known"), e.learn(0, c.dst, mtu), false)
			check(t, "MTU", e.mtu(0, c.dst, 9000), 1400)
		}
	}
}

func TestMTUOfMost(t *testing.T) {
	e := newBoth(t)
	e.learn(5, one, 1400)
	for most, want := range map[int]int{
		math.MinInt: math.MinInt, -1: -1, 0: 0, 576: 576, 1399: 1399, 1400: 1400, 1401: 1400, math.MaxInt: 1400,
	} {
		check(t, fmt.Sprint("known, most ", most), e.mtu(5, one, most), want)
		check(t, fmt.Sprint("unknown, most ", most), e.mtu(5, two, most), most)
	}
}

func TestWhoseMTU(t *testing.T) {
	e := newBoth(t)
	six := api.Addr{V6: true, B: one.B}
	e.learn(0, one, 1400)
	check(t, "the same bytes of version 6", e.mtu(0, six, 1500), 1500)
	e.learn(0, six, 1300)
	e.learn(0, two, 1200)
	check(t, "all three", fmt.Sprint(e.mtu(0, one, 1500), e.mtu(0, six, 1500), e.mtu(0, two, 1500), e.paths.Len()), "1400 1300 1200 3")
	for at := 4; at < 16; at++ {
		check(t, "Learn of what may not be", e.learn(0, mayNotBe(at), 700), false)
		check(t, "MTU of what may not be", e.mtu(0, mayNotBe(at), 1500), 1500)
	}
	check(t, "None", fmt.Sprint(e.learn(0, api.Addr{}, 700), e.mtu(0, api.Addr{}, 1500)), "true 700")
	check(t, "a group", fmt.Sprint(e.learn(0, group6(), 1290), e.mtu(0, group6(), 1500)), "true 1290")
	check(t, "Len", e.paths.Len(), 5)
}

func TestPathTime(t *testing.T) {
	for _, learned := range []int{0, 1, 100, 1 << 40, 1 << 62, math.MaxInt - 600000} {
		for late, holds := range map[int]bool{0: true, 1: true, 599999: true, 600000: false} {
			e := newBoth(t)
			e.learn(learned, one, 1000)
			check(t, "Len", e.paths.Len(), 1)
			check(t, fmt.Sprint(learned, ", late by ", late), e.mtu(learned+late, one, 1500) == 1000, holds)
			check(t, fmt.Sprint(learned, ", late by ", late), e.paths.Len(), b2i(holds))
			e = newBoth(t)
			e.learn(learned, one, 1000)
			check(t, "a greater one is learned when it is unknown again", e.learn(learned+late, one, 1400), !holds)
		}
	}
	e := newBoth(t)
	e.learn(math.MaxInt, one, 1000)
	check(t, "at the latest time", e.mtu(math.MaxInt, one, 1500), 1000)
	check(t, "at an earlier time", e.mtu(0, one, 1500), 1000)
}

func TestLearnedAnew(t *testing.T) {
	e := newBoth(t)
	e.learn(0, one, 1400)
	check(t, "less", e.learn(1000, one, 1300), true)
	check(t, "as much", e.learn(2000, one, 1300), false)
	check(t, "more", e.learn(2000, one, 1301), false)
	check(t, "below 0", e.learn(2000, one, -1), false)
	check(t, "it holds from the last time on", e.mtu(600999, one, 1500), 1300)
	check(t, "it holds no longer", e.mtu(601000, one, 1500), 1500)

	e = newBoth(t)
	e.learn(0, one6, 1000)
	check(t, "known, and as little", e.learn(1000, one6, 900), false)
	check(t, "known, and as little", e.learn(1000, one6, 0), false)
	check(t, "known, and as little", e.learn(1000, one6, 1280), false)
	check(t, "it stays", e.mtu(599999, one6, 1500), 1280)
	check(t, "it was not learned anew", e.mtu(600000, one6, 1500), 1500)
}

// Len asks for no time: any call with now lets go what has run out, whatever it says.
func TestLenHasNoTime(t *testing.T) {
	for name, call := range map[string]func(e *both){
		"Learn":                      func(e *both) { e.learn(600000, two, 1000) },
		"Learn of what may not be":   func(e *both) { e.learn(600000, mayNotBe(4), 1000) },
		"Learn below 0":              func(e *both) { e.learn(600000, two, -1) },
		"MTU":                        func(e *both) { e.mtu(600000, one, 1500) },
		"MTU of another":             func(e *both) { e.mtu(600000, two, 1500) },
		"MTU of what may not be":     func(e *both) { e.mtu(600000, mayNotBe(4), 1500) },
		"Learn of the same":          func(e *both) { e.learn(600000, one, 1000) },
		"Learn of a late one, known": func(e *both) { e.learn(600000, one6, 1400) },
	} {
		e := newBoth(t)
		e.learn(0, one, 1000)
		e.learn(1, one6, 1300)
		check(t, name+": ahead", e.paths.Len(), 2)
		call(e)
		learns := name == "Learn" || name == "Learn of the same"
		check(t, name, e.paths.Len(), 1+b2i(learns))
		check(t, name+": the other one", e.mtu(0, one6, 1500), 1300)
	}
}

func TestPathsTimeDoesNotGoBack(t *testing.T) {
	e := newBoth(t)
	e.learn(math.MinInt, one, 1000)
	check(t, "ahead of 0", e.mtu(599999, one, 1500), 1000)
	e.learn(5, two, 1000) // at 599999
	check(t, "it holds from 0 on", e.mtu(600000, one, 1500), 1500)
	check(t, "it holds from the greatest time on", e.mtu(1199998, two, 1500), 1000)
	check(t, "and no longer", e.mtu(1199999, two, 1500), 1500)
	check(t, "nothing comes back", e.mtu(0, two, 1500), 1500)
}

func TestMostPaths(t *testing.T) {
	host := func(n int) api.Addr { return wire.V4(10, 1, 0, byte(n)) }
	e := newBoth(t)
	for n := range 16 {
		check(t, "there is room", e.learn(n, host(n), 1000), true)
	}
	check(t, "less of the first one", e.learn(20, host(0), 900), true)
	check(t, "not less of the second one", e.learn(20, host(1), 1000), false)
	check(t, "Len", e.paths.Len(), 16)
	check(t, "the first one", e.mtu(20, host(0), 1500), 900)
	check(t, "one more", e.learn(21, host(16), 1000), true)
	check(t, "Len", e.paths.Len(), 16)
	check(t, "the second one is forgotten", e.mtu(21, host(1), 1500), 1500)
	for n := 17; n < 31; n++ {
		check(t, "one more", e.learn(22, host(n), 1000), true)
		check(t, fmt.Sprint(n-15, " is forgotten"), e.mtu(22, host(n-15), 1500), 1500)
		check(t, "the first one is not", e.mtu(22, host(0), 1500), 900)
	}
	check(t, "one more", e.learn(22, host(31), 1000), true)
	check(t, "now the first one is forgotten", e.mtu(22, host(0), 1500), 1500)
	check(t, "nobody is for one that is not learned", e.learn(22, host(50), -1), false)
	for n := 16; n < 32; n++ {
		check(t, fmt.Sprint(n, " is there"), e.mtu(22, host(n), 1500), 1000)
	}
}

// Of several that were learned at one time it is the one that came first.
func TestMostPathsAtOneTime(t *testing.T) {
	for range 20 { // a map has another order each time
		e := newBoth(t)
		order := rand.New(rand.NewPCG(15, 16)).Perm(40)
		for i, n := range order {
			e.learn(3, wire.V4(10, 1, 0, byte(n)), 1000)
			check(t, "Len", e.paths.Len(), min(i+1, 16))
		}
		for i, n := range order {
			check(t, fmt.Sprint("the last ones are there, ", i), e.mtu(3, wire.V4(10, 1, 0, byte(n)), 1500) == 1000, i >= 24)
		}
	}
}

func TestLatePathsMakeRoom(t *testing.T) {
	e := newBoth(t)
	e.learn(0, one, 1000)
	for n := range 15 {
		e.learn(100, wire.V4(10, 1, 0, byte(n)), 1000)
	}
	check(t, "one more", e.learn(600000, two, 1000), true)
	check(t, "Len", e.paths.Len(), 16)
	for n := range 15 {
		check(t, "none but the late one went", e.mtu(600000, wire.V4(10, 1, 0, byte(n)), 1500), 1000)
	}
}

func TestNoPaths(t *testing.T) {
	var none *Paths
	check(t, "nil: Learn", none.Learn(0, one, 1000), false)
	check(t, "nil: MTU", none.MTU(0, one, 1500), 0)
	check(t, "nil: Len", none.Len(), 0)

	var zero Paths
	check(t, "zero: Len", zero.Len(), 0)
	check(t, "zero: MTU", zero.MTU(7, one, 1500), 1500)
	check(t, "zero: Learn", zero.Learn(5, one, 1000), true)
	check(t, "zero: MTU", zero.MTU(600006, one, 1500), 1000)
	check(t, "zero: MTU", zero.MTU(600007, one, 1500), 1500)
	check(t, "zero: Len", zero.Len(), 0)

	if NewPaths() == nil {
		t.Fatal("NewPaths is nil")
	}
	a, b := NewPaths(), NewPaths()
	check(t, "one", a.Learn(0, one, 1000), true)
	check(t, "another one", b.MTU(0, one, 1500), 1500)
	check(t, "another one", b.Len(), 0)
}

// Drawn calls for some more addresses than there is room, with drawn times.
func TestDrawnPaths(t *testing.T) {
	learned, full := 0, 0
	for seed := range uint64(60) {
		r := rand.New(rand.NewPCG(15, 600+seed))
		e, now := newBoth(t), 0
		for range 500 {
			now += drawnPause(r)
			dst := api.Addr{V6: r.IntN(2) == 0, B: [16]byte{0: byte(r.IntN(13))}}
			if r.IntN(40) == 0 {
				dst.B[9] = 1
			}
			when := now - r.IntN(2)*r.IntN(1000)
			if r.IntN(3) == 0 {
				e.mtu(when, dst, r.IntN(2000)-10)
			} else {
				learned += b2i(e.learn(when, dst, drawnMTU(r)))
			}
			full += b2i(e.paths.Len() == 16)
		}
		for n := range 26 {
			e.mtu(now, api.Addr{V6: n%2 == 0, B: [16]byte{0: byte(n / 2)}}, math.MaxInt)
		}
	}
	if learned < 2000 || full < 2000 {
		t.Errorf("%d learned, %d times full: too few to tell anything", learned, full)
	}
}

func drawnPause(r *rand.Rand) int {
	switch r.IntN(200) {
	case 0:
		return 600000
	case 1:
		return 599999
	case 2, 3:
		return r.IntN(400000)
	}
	return r.IntN(2) * r.IntN(3000)
}

func drawnMTU(r *rand.Rand) int {
	switch r.IntN(6) {
	case 0:
		return r.IntN(600) - 5
	case 1:
		return []int{575, 576, 577, 1279, 1280, 1281}[r.IntN(6)]
	}
	return 500 + r.IntN(1500)
}
