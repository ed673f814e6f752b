package route

import (
	"fmt"
	"math"
	"math/rand/v2"
	"reflect"
	"slices"
	"strings"
	"testing"

	"adit/api"
)

func TestExamples(t *testing.T) {
	x := New[string]()
	check(t, "Put", x.Put(prefix4(8, 10), "a"), api.OK)
	check(t, "Put", x.Put(prefix4(16, 10, 1), "b"), api.OK)
	check(t, "Put", x.Put(prefix4(0), "c"), api.OK)
	check(t, "Put", x.Put(prefix4(16, 10, 1, 2, 3), "d"), api.OK)
	check(t, "Len", x.Len(), 3)
	for _, c := range []struct {
		a     api.Addr
		owner string
		p     api.Prefix
	}{
		{addr4(10, 1, 9, 9), "d", prefix4(16, 10, 1)},
		{addr4(10, 2, 0, 1), "a", prefix4(8, 10)},
		{addr4(11, 0, 0, 1), "c", prefix4(0)},
	} {
		owner, p, ok := x.Find(c.a)
		check(t, "Find", owner, c.owner)
		check(t, "Find's prefix", p, c.p)
		check(t, "Find's ok", ok, true)
	}
	for _, a := range []api.Addr{addr6(), addr6(10, 1, 9, 9), addr6(255), addr6(slices.Repeat([]byte{255}, 16)...)} {
		owner, p, ok := x.Find(a)
		check(t, "Find of version 6", owner, "")
		check(t, "Find's prefix of version 6", p, api.Prefix{})
		check(t, "Find's ok of version 6", ok, false)
	}
	owner, ok := x.Drop(prefix4(16, 10, 1))
	check(t, "Drop", owner, "d")
	check(t, "Drop's ok", ok, true)
	owner, p, ok := x.Find(addr4(10, 1, 9, 9))
	check(t, "Find behind Drop", owner, "a")
	check(t, "Find's prefix behind Drop", p, prefix4(8, 10))
	check(t, "Find's ok behind Drop", ok, true)
	check(t, "Put with Bits 33", x.Put(prefix4(33), "e"), api.ErrPrefix)
}

// Words

func TestIsPrefix(t *testing.T) {
	ones := slices.Repeat([]byte{255}, 16)
	numbers := []int{math.MinInt, math.MinInt32, -256, 256, 1 << 32, 1<<32 + 8, math.MaxInt}
	for bits := -140; bits <= 300; bits++ {
		numbers = append(numbers, bits)
	}
	for _, bits := range numbers {
		for _, b := range [][]byte{nil, {10, 1}, ones[:4]} {
			check(t, fmt.Sprint("version 4, ", bits), IsPrefix(prefix4(bits, b...)), bits >= 0 && bits <= 32)
			check(t, fmt.Sprint("version 6, ", bits), IsPrefix(prefix6(bits, b...)), bits >= 0 && bits <= 128)
		}
		check(t, fmt.Sprint("version 4, all bits 1, ", bits), IsPrefix(prefix4(bits, ones...)), false)
		check(t, fmt.Sprint("version 6, all bits 1, ", bits), IsPrefix(prefix6(bits, ones...)), bits >= 0 && bits <= 128)
	}
}

func TestIsPrefixLooksAtTheLast12Bytes(t *testing.T) {
	for at := range 16 {
		for _, value := range []byte{1, 16, 128, 255} {
			var b [16]byte
			b[at] = value
			for _, bits := range []int{0, 1, 8, 31, 32} {
				check(t, fmt.Sprint("version 4, byte ", at), IsPrefix(prefix4(bits, b[:]...)), at < 4)
				check(t, fmt.Sprint("version 6, byte ", at), IsPrefix(prefix6(bits, b[:]...)), true)
			}
		}
	}
}

func TestWhole(t *testing.T) {
	source := rand.New(rand.NewPCG(1, 10))
	for bits := -3; bits <= 140; bits++ {
		for range 20 {
			for _, v6 := range []bool{false, true} {
				p := api.Prefix{Addr: drawnAddr(source, v6), Bits: bits}
				given := p
				want := api.Prefix{}
				if text := prefixText(p); text != "" {
					want = prefixOf(text)
				}
				check(t, fmt.Sprint("Whole ", p), Whole(p), want)
				check(t, fmt.Sprint("Whole of Whole ", p), Whole(Whole(p)), want)
				check(t, "what was handed in", p, given)
			}
		}
	}
}

func TestWholeOfAllOnes(t *testing.T) {
	ones := slices.Repeat([]byte{255}, 16)
	for bits := range 129 {
		check(t, fmt.Sprint("version 6, ", bits), Whole(prefix6(bits, ones...)), prefixOf("6"+strings.Repeat("1", bits)))
	}
	for bits := range 33 {
		check(t, fmt.Sprint("version 4, ", bits), Whole(prefix4(bits, ones[:4]...)), prefixOf("4"+strings.Repeat("1", bits)))
	}
}

func TestWholeOfOneThatMayNotBe(t *testing.T) {
	for _, p := range wrong() {
		check(t, fmt.Sprint("Whole ", p), Whole(p), api.Prefix{})
	}
}

// wrong are prefixes that may not be.
func wrong() []api.Prefix {
	return []api.Prefix{
		prefix4(33), prefix4(33, 10), prefix4(128), prefix4(-1), prefix4(-8, 10), prefix4(math.MinInt), prefix4(math.MaxInt),
		prefix4(8, 10, 0, 0, 0, 1), prefix4(0, 0, 0, 0, 0, 1), prefix4(0, []byte{15: 1}...), prefix4(32, 1, 2, 3, 4, 5), prefix4(40, 1, 2, 3, 4, 5),
		prefix6(129), prefix6(-1), prefix6(129, 10), prefix6(256), prefix6(math.MinInt), prefix6(math.MaxInt),
	}
}

// A prefix has the same addresses as its whole form: whichever is put, the same ones are found.
func TestSamePrefixHasTheSameAddresses(t *testing.T) {
	source := rand.New(rand.NewPCG(2, 10))
	for range 2000 {
		v6 := source.IntN(2) == 1
		p := drawnPrefix(source, v6)
		x, whole, m := New[int](), New[int](), &model[int]{}
		x.Put(p, 1)
		whole.Put(Whole(p), 1)
		m.put(p, 1)
		for _, a := range append(edges(prefixText(p)), drawnAddr(source, v6), drawnAddr(source, !v6)) {
			checkFind(t, x, m, a)
			checkFind(t, whole, m, a)
		}
	}
}

func drawnAddr(source *rand.Rand, v6 bool) api.Addr {
	a := api.Addr{V6: v6}
	for i := range a.B {
		if v6 || i < 4 {
			a.B[i] = byte(source.Uint32())
		}
	}
	return a
}

func drawnPrefix(source *rand.Rand, v6 bool) api.Prefix {
	a := drawnAddr(source, v6)
	return api.Prefix{Addr: a, Bits: source.IntN(widest(a) + 1)}
}

// P10.1

func TestNew(t *testing.T) {
	x := New[int]()
	if x == nil {
		t.Fatal("New is nil")
	}
	checkState(t, x, &model[int]{}, addr4(), addr6(), addr4(10), addr6(10))
	x.Put(prefix4(8, 10), 1)
	checkState(t, New[int](), &model[int]{}, addr4(10))
}

func TestPutOfWhatMayNotBe(t *testing.T) {
	x, m := New[int](), &model[int]{}
	for _, p := range wrong() {
		check(t, fmt.Sprint("Put ", p), x.Put(p, 1), api.ErrPrefix)
		checkState(t, x, m, p.Addr, addr4(), addr6(), addr4(10))
	}
	for _, p := range []api.Prefix{prefix4(0), prefix6(0), prefix4(8, 10), prefix4(32, 1, 2, 3, 4)} {
		checkPut(t, x, m, p, 2)
	}
	for _, p := range wrong() {
		check(t, fmt.Sprint("Put ", p), x.Put(p, 1), api.ErrPrefix)
		checkState(t, x, m, p.Addr)
	}
}

func TestPutAnew(t *testing.T) {
	source := rand.New(rand.NewPCG(3, 10))
	for range 300 {
		x, m := New[int](), &model[int]{}
		p := drawnPrefix(source, source.IntN(2) == 1)
		checkPut(t, x, m, p, 1)
		for owner := range 5 {
			checkPut(t, x, m, anotherForm(source, p), owner)
			check(t, "Len", x.Len(), 1)
			checkState(t, x, m, p.Addr)
		}
	}
}

// anotherForm has other bits behind the first ones.
func anotherForm(source *rand.Rand, p api.Prefix) api.Prefix {
	drawn := drawnAddr(source, p.Addr.V6)
	for at := p.Bits; at < widest(p.Addr); at++ {
		mask := byte(128 >> (at % 8))
		p.Addr.B[at/8] = p.Addr.B[at/8]&^mask | drawn.B[at/8]&mask
	}
	return p
}

func TestFull(t *testing.T) {
	x, m := full()
	check(t, "Len", x.Len(), api.MaxPrefixes)
	for _, p := range []api.Prefix{prefix4(0), prefix6(0), prefix4(9, 2), prefix4(7, 2), prefix4(8, 64), prefix6(8, 2), prefix4(32, 9), prefix6(128, 9)} {
		check(t, fmt.Sprint("Put ", p), x.Put(p, 7), api.ErrFull)
		checkState(t, x, m, p.Addr)
	}
	for _, p := range wrong() {
		check(t, fmt.Sprint("Put of what may not be ", p), x.Put(p, 7), api.ErrPrefix)
	}
	checkPut(t, x, m, prefix4(8, 2, 3), 8)
	checkPut(t, x, m, prefix6(8, 3, 3), 9)
	checkState(t, x, m)
	checkDrop(t, x, m, prefix4(8, 4))
	checkPut(t, x, m, prefix6(0), 10)
	check(t, "Put behind it", x.Put(prefix4(8, 4), 11), api.ErrFull)
	check(t, "Len", x.Len(), api.MaxPrefixes)
	checkState(t, x, m, addr4(4))
}

// A chain, each within the one before, of one version alone.
func TestFullOfOneVersion(t *testing.T) {
	x, m := New[int](), &model[int]{}
	for bits := range 129 {
		checkPut(t, x, m, prefix6(bits, 1, 2, 3, 4, 5, 6, 7, 8, 9, 10, 11, 12, 13, 14, 15, 16), bits)
		check(t, "Len", x.Len(), min(bits+1, 64))
	}
	checkState(t, x, m, addr6(1, 2, 3, 4, 5, 6, 7, 8, 9, 10, 11, 12, 13, 14, 15, 16))
	check(t, "Put of version 4", x.Put(prefix4(0), 1), api.ErrFull)
}

func TestDrop(t *testing.T) {
	x, m := New[string](), &model[string]{}
	for i, p := range []api.Prefix{prefix4(0), prefix4(8, 10), prefix4(9, 10), prefix4(24, 10, 1, 2), prefix4(32, 10, 1, 2, 3), prefix6(0), prefix6(8, 10), prefix6(128, 10)} {
		checkPut(t, x, m, p, fmt.Sprint("owner ", i))
	}
	for _, p := range []api.Prefix{prefix4(7, 10), prefix4(10, 10), prefix4(8, 11), prefix4(32, 10, 1, 2, 4), prefix4(23, 10, 1, 2), prefix6(9, 10), prefix6(127, 10), prefix6(32, 10, 1, 2, 3)} {
		checkDrop(t, x, m, p)
		check(t, "Len", x.Len(), 8)
	}
	for i, p := range []api.Prefix{prefix4(9, 10, 127, 3), prefix4(9, 10), prefix4(0, 77, 3), prefix4(0), prefix6(8, 10, 200), prefix4(32, 10, 1, 2, 3), prefix4(24, 10, 1, 2, 77), prefix6(128, 10), prefix6(0, 1), prefix4(8, 10)} {
		checkDrop(t, x, m, p)
		checkState(t, x, m, p.Addr)
		check(t, fmt.Sprint("Len behind Drop ", i), x.Len(), len(m.rows))
	}
	check(t, "Len", x.Len(), 0)
}

// The whole form of one that may not be is the zero prefix; it is not that prefix itself.
func TestDropOfWhatMayNotBe(t *testing.T) {
	x, m := New[int](), &model[int]{}
	for i, p := range []api.Prefix{prefix4(0), prefix6(0), prefix4(8, 10), prefix6(8, 10), prefix4(32, 1, 2, 3, 4), prefix6(128, 10)} {
		checkPut(t, x, m, p, i+1)
	}
	for _, p := range wrong() {
		owner, ok := x.Drop(p)
		check(t, fmt.Sprint("Drop ", p), ok, false)
		check(t, fmt.Sprint("whose Drop tells ", p, " was"), owner, 0)
		checkState(t, x, m)
	}
}

// P10.2

func TestFindGoesByTheLongest(t *testing.T) {
	whole := api.Addr{B: [16]byte{0xa5, 0x3c, 0x96, 0x69}}
	x, m := New[int](), &model[int]{}
	for bits := range 33 {
		checkPut(t, x, m, api.Prefix{Addr: whole, Bits: bits}, bits+1)
	}
	for turned := range 32 {
		a := whole
		a.B[turned/8] ^= 128 >> (turned % 8)
		owner, p, ok := x.Find(a)
		check(t, fmt.Sprint("whose, bit ", turned, " turned"), owner, turned+1)
		check(t, fmt.Sprint("Bits, bit ", turned, " turned"), p.Bits, turned)
		check(t, "ok", ok, true)
		checkFind(t, x, m, a)
	}
	owner, p, _ := x.Find(whole)
	check(t, "whose the whole one is", owner, 33)
	check(t, "the prefix of the whole one", p, api.Prefix{Addr: whole, Bits: 32})
	checkState(t, x, m)
}

func TestFindAtTheEndsOfVersion6(t *testing.T) {
	source := rand.New(rand.NewPCG(4, 10))
	whole := drawnAddr(source, true)
	x, m := New[int](), &model[int]{}
	for bits := 65; bits <= 128; bits++ {
		checkPut(t, x, m, api.Prefix{Addr: whole, Bits: bits}, bits)
	}
	for turned := range 128 {
		a := whole
		a.B[turned/8] ^= 128 >> (turned % 8)
		_, p, ok := x.Find(a)
		check(t, fmt.Sprint("ok, bit ", turned, " turned"), ok, turned >= 65)
		if ok {
			check(t, "Bits", p.Bits, turned)
		}
		checkFind(t, x, m, a)
	}
	checkState(t, x, m)
}

func TestFindOfWhatMayNotBe(t *testing.T) {
	x := New[int]()
	for _, p := range []api.Prefix{prefix4(0), prefix4(8, 10), prefix4(32, 10, 1, 2, 3), prefix6(0)} {
		x.Put(p, 5)
	}
	for at := 4; at < 16; at++ {
		for _, value := range []byte{1, 128, 255} {
			a := addr4(10, 1, 2, 3)
			a.B[at] = value
			owner, p, ok := x.Find(a)
			check(t, fmt.Sprint("Find with byte ", at), ok, false)
			check(t, "whose", owner, 0)
			check(t, "by which prefix", p, api.Prefix{})
			a.V6 = true
			_, _, ok = x.Find(a)
			check(t, fmt.Sprint("Find of version 6 with byte ", at), ok, true)
		}
	}
}

// The bytes are the same; the versions are not.
func TestVersionsAreApart(t *testing.T) {
	for _, bits := range []int{0, 1, 8, 31, 32} {
		for _, v6 := range []bool{false, true} {
			x, m := New[int](), &model[int]{}
			p := api.Prefix{Addr: api.Addr{V6: v6, B: [16]byte{10, 1, 2, 3}}, Bits: bits}
			checkPut(t, x, m, p, 1)
			checkState(t, x, m, addr4(10, 1, 2, 3), addr6(10, 1, 2, 3), addr4(), addr6())
			other := p
			other.Addr.V6 = !v6
			_, _, ok := x.Find(other.Addr)
			check(t, "Find of the other version", ok, false)
			checkDrop(t, x, m, other)
			checkPut(t, x, m, other, 2)
			check(t, "Len", x.Len(), 2)
			checkState(t, x, m, addr4(10, 1, 2, 3), addr6(10, 1, 2, 3), addr4(), addr6())
			checkDrop(t, x, m, p)
			checkState(t, x, m, addr4(10, 1, 2, 3), addr6(10, 1, 2, 3), addr4(), addr6())
		}
	}
}

func TestFindLeavesAll(t *testing.T) {
	x, m := full()
	for range 3 {
		checkState(t, x, m, addr4(4), addr4(200), addr6(5))
	}
}

// P10.3

func TestAllInOrder(t *testing.T) {
	want := []api.Prefix{
		prefix4(0), prefix4(1), prefix4(32), prefix4(32, 0, 0, 0, 1), prefix4(8, 10), prefix4(16, 10), prefix4(24, 10, 0, 1), prefix4(16, 10, 1), prefix4(1, 128), prefix4(32, 255, 255, 255, 255),
		prefix6(0), prefix6(32), prefix6(128), prefix6(128, []byte{15: 1}...), prefix6(8, 10), prefix6(128, 10), prefix6(1, 128), prefix6(128, slices.Repeat([]byte{255}, 16)...),
	}
	source := rand.New(rand.NewPCG(5, 10))
	for range 50 {
		x := New[int]()
		for _, i := range source.Perm(len(want)) {
			x.Put(anotherForm(source, want[i]), i)
		}
		all := collected(x.All())
		check(t, "how many", len(all), len(want))
		for i, e := range all {
			check(t, fmt.Sprint("prefix ", i), e.prefix, want[i])
			check(t, fmt.Sprint("whose ", i), e.owner, i)
		}
	}
}

func TestAllOfNone(t *testing.T) {
	var none *Table[string]
	for _, x := range []*Table[string]{none, {}, New[string]()} {
		all := x.All()
		if all == nil {
			t.Fatal("All is nil")
		}
		check(t, "how many", len(collected(all)), 0)
	}
}

func TestAllAsTheyStood(t *testing.T) {
	x, m := New[int](), &model[int]{}
	empty := x.All()
	for i, p := range []api.Prefix{prefix4(0), prefix4(8, 10), prefix4(16, 10, 1), prefix6(0), prefix6(128, 1)} {
		checkPut(t, x, m, p, i)
	}
	stood, want := x.All(), m.all()
	check(t, "of none", len(collected(empty)), 0)

	checkPut(t, x, m, prefix4(8, 10), 77)
	checkList(t, "behind Put anew", collected(stood), want)
	checkPut(t, x, m, prefix4(24, 10, 1, 1), 78)
	checkPut(t, x, m, prefix4(7, 10), 79)
	checkList(t, "behind Put", collected(stood), want)
	later, wantLater := x.All(), m.all()
	for _, e := range want {
		checkDrop(t, x, m, e.prefix)
		checkList(t, "behind Drop", collected(stood), want)
		checkList(t, "behind Drop, the later one", collected(later), wantLater)
	}
	checkState(t, x, m)
	check(t, "of none", len(collected(empty)), 0)
}

func TestAllIsChangedMeanwhile(t *testing.T) {
	x, m := full()
	want, i := m.all(), 0
	for p, owner := range x.All() {
		check(t, "prefix", p, want[i].prefix)
		check(t, "whose", owner, want[i].owner)
		for _, e := range want[min(i+1, 63):] {
			x.Drop(e.prefix)
		}
		x.Drop(p)
		x.Put(prefix4(32, 77, byte(i)), i)
		i++
	}
	check(t, "how many", i, 64)
	check(t, "Len", x.Len(), 64)
}

func TestAllFromTheFirstOneOn(t *testing.T) {
	x, m := full()
	all, want := x.All(), m.all()
	for stop := range 65 {
		var seen []told[int]
		for p, owner := range all {
			if len(seen) == stop {
				break
			}
			seen = append(seen, told[int]{p, owner})
		}
		checkList(t, fmt.Sprint("the first ", stop), seen, want[:stop])
	}
	checkList(t, "all", collected(all), want)
	count := 0
	for outer := range all {
		at := 0
		for inner := range all {
			check(t, "within", inner, want[at].prefix)
			at++
		}
		check(t, "around", outer, want[count].prefix)
		count++
	}
	check(t, "how many", count, 64)
}

// Who ends a range is asked nothing more: at each place of a chain, too.
func TestAllEndsWhereItIsLeft(t *testing.T) {
	x := New[int]()
	for bits := range 33 {
		x.Put(prefix4(bits, 170, 170, 170, 170), bits)
		if bits < 31 {
			x.Put(prefix6(bits, 85, 85, 85, 85), bits)
		}
	}
	for stop := 1; stop <= x.Len(); stop++ {
		asked := 0
		x.All()(func(api.Prefix, int) bool {
			asked++
			return asked < stop
		})
		check(t, "how often", asked, stop)
	}
}

func TestWhatIsToldIsItsOwners(t *testing.T) {
	x, m := full()
	for p := range x.All() {
		p.Addr.B[0], p.Bits = 99, 3
	}
	_, p, _ := x.Find(addr4(2))
	p.Addr.B[0], p.Bits = 99, 3
	given := prefix4(8, 2)
	checkPut(t, x, m, given, 5)
	given.Addr.B[0], given.Bits = 99, 3
	checkState(t, x, m)
}

// P10.4

func TestOrderOfPutsIsNotSeen(t *testing.T) {
	source := rand.New(rand.NewPCG(6, 10))
	for range 100 {
		prefixes := drawnFew(source)
		first, m := New[int](), &model[int]{}
		for i, p := range prefixes {
			checkPut(t, first, m, p, i)
		}
		for range 3 {
			x := New[int]()
			for _, i := range source.Perm(len(prefixes)) {
				check(t, "Put", x.Put(prefixes[i], i), api.OK)
			}
			checkState(t, x, m)
			if !reflect.DeepEqual(x, first) {
				t.Error("another order of puts leads to another table")
			}
		}
	}
}

// drawnFew are up to 64 prefixes, no two the same, many within each other.
func drawnFew(source *rand.Rand) (few []api.Prefix) {
	seen := map[string]bool{}
	for range 1 + source.IntN(64) {
		p := drawnNear(source)
		if text := prefixText(p); !seen[text] {
			seen[text] = true
			few = append(few, p)
		}
	}
	return few
}

// drawnNear is a prefix whose bits are mostly 1, so that many have one beginning.
func drawnNear(source *rand.Rand) api.Prefix {
	a := api.Addr{V6: source.IntN(2) == 1}
	for i := range widest(a) {
		if source.IntN(8) > 0 {
			a.B[i/8] |= 128 >> (i % 8)
		}
	}
	bits := source.IntN(min(widest(a), 12))
	if source.IntN(8) == 0 {
		bits = source.IntN(widest(a) + 1)
	}
	return api.Prefix{Addr: a, Bits: bits}
}

func TestOneHasAllThatTheOtherHas(t *testing.T) {
	source := rand.New(rand.NewPCG(7, 10))
	has := func(p api.Prefix, a api.Addr) bool {
		x := New[int]()
		x.Put(p, 1)
		_, _, ok := x.Find(a)
		return ok
	}
	both := 0
	for range 20000 {
		p, q, a := drawnNear(source), drawnNear(source), drawnNear(source).Addr
		if !has(p, a) || !has(q, a) {
			continue
		}
		both++
		if p.Bits > q.Bits {
			p, q = q, p
		}
		for _, b := range append(edges(prefixText(q)), drawnNear(source).Addr) {
			if has(q, b) {
				check(t, "the shorter one has it", has(p, b), true)
			}
		}
	}
	check(t, "pairs were found", both > 100, true)
}

func TestDroppedAndPutAgain(t *testing.T) {
	source := rand.New(rand.NewPCG(8, 10))
	for range 100 {
		x, y, m := New[int](), New[int](), &model[int]{}
		for i, p := range drawnFew(source) {
			checkPut(t, x, m, p, i)
			y.Put(p, i)
		}
		for _, e := range m.all() {
			owner, ok := x.Drop(e.prefix)
			check(t, "whose", owner, e.owner)
			check(t, "ok", ok, true)
			check(t, "Put again", x.Put(anotherForm(source, e.prefix), owner), api.OK)
			if !reflect.DeepEqual(x, y) {
				t.Fatal("a table is another one behind Drop and Put")
			}
		}
		checkState(t, x, m)
	}
}

// Nothing stays of what was dropped: neither nodes nor whose it was.
func TestNothingStays(t *testing.T) {
	source := rand.New(rand.NewPCG(9, 10))
	for range 100 {
		x := New[*int]()
		few := drawnFew(source)
		for i, p := range few {
			x.Put(p, &few[i].Bits)
		}
		for at, i := range source.Perm(len(few)) {
			x.Drop(few[i])
			check(t, "Len", x.Len(), len(few)-at-1)
			for v, root := range x.roots {
				checkNoDeadEnds(t, v, root)
			}
		}
		if !reflect.DeepEqual(x, New[*int]()) {
			t.Error("an emptied table is no empty one")
		}
	}
}

func checkNoDeadEnds(t *testing.T, v int, n *node[*int]) {
	t.Helper()
	if n == nil {
		return
	}
	if !n.there && (n.owner != nil || n.branches[0] == nil && n.branches[1] == nil) {
		t.Error("something stays behind Drop in the trie ", v)
	}
	checkNoDeadEnds(t, v, n.branches[0])
	checkNoDeadEnds(t, v, n.branches[1])
}

// Nil and zero tables

func TestNil(t *testing.T) {
	var x *Table[int]
	check(t, "Put", x.Put(prefix4(8, 10), 1), api.ErrArg)
	check(t, "Put of what may not be", x.Put(prefix4(33), 1), api.ErrArg)
	for _, p := range []api.Prefix{prefix4(0), prefix4(8, 10), prefix6(0), prefix4(33)} {
		owner, ok := x.Drop(p)
		check(t, "Drop", owner, 0)
		check(t, "Drop's ok", ok, false)
		owner, found, ok := x.Find(p.Addr)
		check(t, "Find", owner, 0)
		check(t, "Find's prefix", found, api.Prefix{})
		check(t, "Find's ok", ok, false)
	}
	check(t, "Len", x.Len(), 0)
	check(t, "how many of All", len(collected(x.All())), 0)
}

func TestZero(t *testing.T) {
	var x Table[string]
	m := &model[string]{}
	checkState(t, &x, m, addr4(), addr6())
	checkDrop(t, &x, m, prefix4(0))
	check(t, "Put of what may not be", x.Put(prefix4(33), "a"), api.ErrPrefix)
	checkPut(t, &x, m, prefix4(0), "a")
	checkPut(t, &x, m, prefix6(128, 1), "b")
	checkState(t, &x, m, addr4(), addr6())
	checkDrop(t, &x, m, prefix4(0))
	checkState(t, &x, m, addr4(), addr6())
}

// Owners of any kind, those that can't be compared too; a zero value is an owner as any other.
func TestOwners(t *testing.T) {
	lists := New[[]int]()
	lists.Put(prefix4(8, 10), []int{1, 2})
	lists.Put(prefix4(16, 10, 1), nil)
	list, _, ok := lists.Find(addr4(10, 1))
	check(t, "a nil list is found", ok && list == nil, true)
	list, _, _ = lists.Find(addr4(10, 2))
	check(t, "a list is found", slices.Equal(list, []int{1, 2}), true)
	list, ok = lists.Drop(prefix4(16, 10, 1))
	check(t, "a nil list is dropped", ok && list == nil, true)

	calls := New[func() int]()
	calls.Put(prefix6(0), func() int { return 7 })
	call, _, _ := calls.Find(addr6(1))
	check(t, "a function is found", call(), 7)

	nothing := New[struct{}]()
	nothing.Put(prefix4(0), struct{}{})
	_, _, ok = nothing.Find(addr4(1))
	check(t, "an empty struct is found", ok, true)

	numbers := New[int]()
	numbers.Put(prefix4(0), 0)
	numbers.Put(prefix4(8, 10), 5)
	numbers.Put(prefix4(8, 10), 0)
	number, p, ok := numbers.Find(addr4(10))
	check(t, "whose", number, 0)
	check(t, "by the longer one", p, prefix4(8, 10))
	check(t, "ok", ok, true)
}

// Every set of prefixes of two bits more than a beginning, put and dropped both ways round; the beginnings are at the edges of bytes and of versions.
func TestAllSmallSets(t *testing.T) {
	tails := []string{"", "0", "1", "00", "01", "10", "11"}
	beginnings := []string{"4", "4" + strings.Repeat("10", 3) + "1", "4" + strings.Repeat("01", 15), "6", "6" + strings.Repeat("1", 62), "6" + strings.Repeat("0", 126)}
	for _, beginning := range beginnings {
		for set := range 1 << len(tails) {
			x, m := New[int](), &model[int]{}
			for i, tail := range tails {
				if set>>i&1 == 1 {
					checkPut(t, x, m, prefixOf(beginning+tail), i)
				}
			}
			checkState(t, x, m, edges(beginning+"00")...)
			slices.Reverse(m.rows)
			for i, tail := range tails {
				if i%2 == set%2 {
					checkDrop(t, x, m, prefixOf(beginning+tail))
				}
			}
			checkState(t, x, m, edges(beginning+"00")...)
		}
	}
}

func TestDrawnWays(t *testing.T) {
	source := rand.New(rand.NewPCG(10, 10))
	for way := range 40 {
		x, m := New[int](), &model[int]{}
		puts := 4 + way%8 // of 12 steps: some ways fill up, some stay nearly empty
		for step := range 400 {
			p := drawnNear(source)
			if source.IntN(20) == 0 {
				p.Bits = source.IntN(300) - 100
			}
			if source.IntN(20) == 0 {
				p.Addr.B[source.IntN(16)] ^= 4
			}
			if source.IntN(12) < puts {
				checkPut(t, x, m, p, step)
			} else {
				checkDrop(t, x, m, p)
			}
			checkFind(t, x, m, drawnNear(source).Addr)
			check(t, "Len", x.Len(), len(m.rows))
			if step%40 == 0 {
				checkState(t, x, m, p.Addr)
			}
		}
	}
}
