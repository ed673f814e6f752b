package replay

import (
	"fmt"
	"math"
	"math/rand/v2"
	"slices"
	"testing"

	"adit/api"
)

// The tests hold the package against a plain model, which keeps a set of the counters that came and goes by the chapter's words alone.

type model[T Number] struct {
	size int
	came map[T]bool
}

func newModel[T Number](size int) *model[T] {
	return &model[T]{size: size, came: map[T]bool{}}
}

func (m *model[T]) fresh(n T) bool {
	if n == ^T(0) || m.came[n] {
		return false
	}
	for c := range m.came {
		if c > n && c-n >= T(m.size) {
			return false
		}
	}
	return true
}

func (m *model[T]) take(n T) bool {
	fresh := m.fresh(n)
	if fresh {
		m.came[n] = true
	}
	return fresh
}

func (m *model[T]) top() (top T) {
	for c := range m.came {
		top = max(top, c+1)
	}
	return top
}

func (m *model[T]) seen() (seen []T) {
	greatest := m.top() - 1
	for c := range m.came {
		if greatest-c < T(m.size) {
			seen = append(seen, c)
		}
	}
	slices.Sort(seen)
	return seen
}

// forget drops what is so late that it bears on no answer, so that long ways stay quick.
func (m *model[T]) forget() {
	kept := map[T]bool{}
	for _, c := range m.seen() {
		kept[c] = true
	}
	m.came = kept
}

func check[V comparable](t *testing.T, what string, got, want V) {
	t.Helper()
	if got != want {
		t.Errorf("%s: %v, want %v", what, got, want)
	}
}

func checkList[T Number](t *testing.T, what string, got, want []T) {
	t.Helper()
	if !slices.Equal(got, want) {
		t.Errorf("%s: %v, want %v", what, got, want)
	}
}

// checkState holds all that a window tells of itself against the model, and what is fresh among some counters.
func checkState[T Number](t *testing.T, what string, w *Window[T], m *model[T], some ...T) {
	t.Helper()
	check(t, what+": Size", w.Size(), m.size)
	check(t, what+": Top", w.Top(), m.top())
	checkList(t, what+": Came", w.Came(), m.seen())
	for _, n := range some {
		check(t, fmt.Sprintf("%s: Fresh(%d)", what, n), w.Fresh(n), m.fresh(n))
	}
}

func checkTake[T Number](t *testing.T, what string, w *Window[T], m *model[T], n T) {
	t.Helper()
	check(t, fmt.Sprintf("%s: Fresh(%d)", what, n), w.Fresh(n), m.fresh(n))
	check(t, fmt.Sprintf("%s: Take(%d)", what, n), w.Take(n), m.take(n))
}

func taken[T Number](size int, counters ...T) *Window[T] {
	w := New[T](size)
	for _, n := range counters {
		w.Take(n)
	}
	return w
}

// sizes are those around the edges of words, and the least and the greatest.
func sizes() []int {
	return []int{1, 2, 3, 4, 31, 32, 33, 62, 63, 64, 65, 66, 127, 128, 129, 130, 192, 1000, 4096, 8190, 8191, 8192}
}

func TestExamples(t *testing.T) {
	w := New[uint64](4)
	for _, step := range []struct {
		n    uint64
		want bool
	}{{5, true}, {5, false}, {2, true}, {1, false}, {3, true}} {
		check(t, fmt.Sprintf("Take(%d)", step.n), w.Take(step.n), step.want)
	}
	check(t, "Top", w.Top(), 6)
	checkList(t, "Came", w.Came(), []uint64{2, 3, 5})
	check(t, "Take(9)", w.Take(9), true)
	check(t, "Fresh(5)", w.Fresh(5), false)
	checkList(t, "Came", w.Came(), []uint64{9})
	check(t, "Fresh of the greatest", New[uint32](4).Fresh(4294967295), false)
}

// P8.1

func TestSizes(t *testing.T) {
	for _, size := range sizes() {
		check(t, fmt.Sprintf("Size of New(%d)", size), New[uint64](size).Size(), size)
		check(t, fmt.Sprintf("Size of New(%d)", size), New[uint32](size).Size(), size)
	}
	for _, size := range []int{0, -1, -64, -8192, math.MinInt} {
		checkWindowOfSize(t, size, 1)
	}
	for _, size := range []int{8193, 8256, 1 << 20, 1 << 32, math.MaxInt} {
		checkWindowOfSize(t, size, api.WindowBits)
	}
}

// checkWindowOfSize asks not Size alone, but what the window remembers.
func checkWindowOfSize(t *testing.T, asked, size int) {
	t.Helper()
	what := fmt.Sprintf("New(%d)", asked)
	w, m := New[uint32](asked), newModel[uint32](size)
	checkState(t, what, w, m, 0, 1, math.MaxUint32)
	for _, n := range []int{size, 1, 0, 0, size, 2*size - 1, size - 1, size} {
		checkTake(t, what, w, m, uint32(n))
		checkState(t, what, w, m, 0, 1, uint32(size), uint32(2*size))
	}
}

func TestNewHasNone(t *testing.T) {
	for _, size := range sizes() {
		w := New[uint64](size)
		check(t, "Top", w.Top(), 0)
		check(t, "len of Came", len(w.Came()), 0)
		for _, n := range []uint64{0, 1, 63, 64, 8192, 1 << 32, 1 << 63, math.MaxUint64 - 1} {
			check(t, fmt.Sprintf("Fresh(%d)", n), w.Fresh(n), true)
		}
	}
}

func TestCopyIsApart(t *testing.T) {
	for _, size := range sizes() {
		step := uint64(size)
		w := taken(size, 10000, 10001-step, 10002)
		same := w.Came()
		c := w.Copy()
		check(t, "Size of a copy", c.Size(), size)
		check(t, "Top of a copy", c.Top(), w.Top())
		checkList(t, "Came of a copy", c.Came(), same)

		check(t, "Take of a copy", c.Take(10003), true)
		check(t, "Top behind the copy's Take", w.Top(), 10003)
		check(t, "Fresh behind the copy's Take", w.Fresh(10003), true)
		checkList(t, "Came behind the copy's Take", w.Came(), same)

		kept := c.Came()
		w.Take(10003 + 2*step)
		check(t, "Top of a copy behind the first one's Take", c.Top(), 10004)
		checkList(t, "Came of a copy behind the first one's Take", c.Came(), kept)
		w.Clear()
		checkList(t, "Came of a copy behind the first one's Clear", c.Came(), kept)
	}
}

func TestCopyOfNone(t *testing.T) {
	w := New[uint32](70)
	c := w.Copy()
	check(t, "Size", c.Size(), 70)
	check(t, "Top", c.Top(), 0)
	check(t, "Take of the copy", c.Take(0), true)
	check(t, "Fresh of the first one", w.Fresh(0), true)
	check(t, "Top of the first one", w.Top(), 0)
}

func TestClear(t *testing.T) {
	source := rand.New(rand.NewPCG(1, 8))
	for _, size := range sizes() {
		w := New[uint64](size)
		for range 300 {
			w.Take(source.Uint64N(3 * uint64(size)))
		}
		c := w.Copy()
		kept := c.Came()
		w.Clear()
		m := newModel[uint64](size)
		checkState(t, "cleared", w, m, 0, 1, uint64(size), math.MaxUint64)
		for n := range 3 * uint64(size) {
			check(t, "Fresh of a cleared one", w.Fresh(n), true)
		}
		// Lesser ones than before, over the words that were used.
		for _, n := range []int{size / 2, 0, size - 1, 2 * size, size + 1} {
			checkTake(t, "cleared", w, m, uint64(n))
			checkState(t, "cleared", w, m)
		}
		checkList(t, "Came of a copy", c.Came(), kept)
	}
}

// P8.2

func testGreatest[T Number](t *testing.T) {
	t.Helper()
	last := ^T(0)
	for _, size := range sizes() {
		what := fmt.Sprintf("size %d at the end", size)
		w, m := New[T](size), newModel[T](size)
		checkTake(t, what, w, m, last)
		check(t, what+": Top behind the greatest number", w.Top(), 0)
		s := T(size)
		for _, n := range []T{last - 2, last, last - 1, last - s - 1, last - s, last, last - 1, last - s + 1, 0} {
			checkTake(t, what, w, m, n)
			checkState(t, what, w, m, last, last-1, last-s, last-s-1, last-s+1, 0, 1)
		}
		check(t, what+": Top", w.Top(), last)
	}
}

type small uint32
type large uint64

func TestGreatestNumber(t *testing.T) {
	testGreatest[uint32](t)
	testGreatest[uint64](t)
	testGreatest[small](t)
	testGreatest[large](t)
}

func TestFirstOnes(t *testing.T) {
	for _, size := range sizes() {
		w, m := New[uint32](size), newModel[uint32](size)
		for _, n := range []int{0, 0, size - 1, 0, size, 0, 1, size - 1, 2*size - 1, size - 1, size, 2 * size} {
			checkTake(t, fmt.Sprintf("size %d", size), w, m, uint32(n))
			checkState(t, fmt.Sprintf("size %d", size), w, m, 0, 1, uint32(size))
		}
	}
}

func TestTakeOfWhatIsNotFreshLeavesAll(t *testing.T) {
	for _, size := range sizes() {
		s := uint64(size)
		w := taken(size, 20000, 20000-s+1)
		came := w.Came()
		for _, n := range []uint64{20000, 20000 - s + 1, 20000 - s, 20000 - s - 1, 0, math.MaxUint64} {
			check(t, fmt.Sprintf("size %d: Take(%d)", size, n), w.Take(n), false)
			check(t, fmt.Sprintf("size %d: Top", size), w.Top(), 20001)
			checkList(t, fmt.Sprintf("size %d: Came", size), w.Came(), came)
		}
	}
}

func TestFreshLeavesAll(t *testing.T) {
	w := taken(100, uint64(500))
	for range 3 {
		for _, n := range []uint64{0, 401, 450, 499, 501, 600, 1 << 40} {
			want := n > 400
			check(t, fmt.Sprintf("Fresh(%d)", n), w.Fresh(n), want)
		}
		check(t, "Top", w.Top(), 501)
		checkList(t, "Came", w.Came(), []uint64{500})
	}
}

// Every way of a few counters through the small windows.
func TestAllShortWays(t *testing.T) {
	const counters, steps = 7, 5
	for size := 1; size <= counters; size++ {
		for way := range 16807 {
			w, m := New[uint32](size), newModel[uint32](size)
			for range steps {
				checkTake(t, fmt.Sprintf("size %d", size), w, m, uint32(way%counters))
				way /= counters
			}
			checkState(t, fmt.Sprintf("size %d", size), w, m, 0, 1, 2, 3, 4, 5, 6, 7)
		}
	}
}

// A jump of each length over up to three rounds, from a window that is full: what stays of it, and nothing that a round ago stood there.
func TestJumps(t *testing.T) {
	for _, size := range []int{1, 2, 63, 64, 65, 66, 128, 129} {
		for _, start := range []uint64{0, 1, 62, 63, 64, 1<<32 - 5} {
			full, m := New[uint64](size), newModel[uint64](size)
			for i := range uint64(size) {
				checkTake(t, "filled", full, m, start+i)
			}
			for jump := range uint64(3*size + 200) {
				w := full.Copy()
				to := start + uint64(size) + jump
				check(t, "Take", w.Take(to), true)
				checkJumped(t, w, start, uint64(size), to)
			}
		}
	}
}

func checkJumped(t *testing.T, w *Window[uint64], start, size, to uint64) {
	t.Helper()
	var want []uint64
	for n := start; n <= to; n++ {
		came := n < start+size || n == to
		remembered := to-n < size
		if came && remembered {
			want = append(want, n)
		}
		if got, fresh := w.Fresh(n), remembered && !came; got != fresh {
			t.Fatalf("size %d from %d to %d: Fresh(%d) is %t", size, start, to, n, got)
		}
	}
	checkList(t, fmt.Sprintf("size %d from %d to %d: Came", size, start, to), w.Came(), want)
}

// drawnNear is a counter around one: mostly near it, at times far on or far behind, and never beyond the ends of T.
func drawnNear[T Number](source *rand.Rand, at T, size int) T {
	on, behind := T(source.IntN(size+3)), T(source.IntN(2*size+3))
	switch source.IntN(20) {
	case 0:
		on = T(source.IntN(5*size + 300))
	case 1:
		behind = T(source.IntN(5*size + 300))
	}
	at += min(on, ^T(0)-at)
	return at - min(behind, at)
}

func testDrawn[T Number](t *testing.T, size int, start T, seed uint64) {
	t.Helper()
	source := rand.New(rand.NewPCG(seed, 8))
	what := fmt.Sprintf("size %d from %d", size, start)
	w, m := New[T](size), newModel[T](size)
	for i := range 600 {
		at := max(start, w.Top())
		checkTake(t, what, w, m, drawnNear(source, at, size))
		if i%16 == 0 {
			checkState(t, what, w, m, at, at-1, at-T(size), at+1-T(size), ^T(0))
			m.forget()
		}
	}
}

func TestDrawnWays(t *testing.T) {
	for i, size := range sizes() {
		testDrawn(t, size, uint32(1<<20), uint64(i))
		testDrawn(t, size, uint32(math.MaxUint32-40000), uint64(i)+100)
		testDrawn(t, size, uint64(1<<20), uint64(i)+200)
		testDrawn(t, size, uint64(1<<32-300), uint64(i)+300)
		testDrawn(t, size, uint64(math.MaxUint64-40000), uint64(i)+400)
		testDrawn(t, size, small(7), uint64(i)+500)
		testDrawn(t, size, large(1<<60), uint64(i)+600)
	}
}

func TestFarJumps(t *testing.T) {
	w, m := New[uint64](8192), newModel[uint64](8192)
	for _, n := range []uint64{0, 1 << 20, 1 << 33, 1<<33 + 129*64, 1<<33 + 129*64*2 - 1, 1 << 50, 1<<64 - 2, 1<<64 - 1, 1<<64 - 8193, 1<<64 - 8194} {
		checkTake(t, "far", w, m, n)
		checkState(t, "far", w, m, n, n-1, n+1, n-8191, n-8192)
	}
}

func TestCameIsItsOwners(t *testing.T) {
	w := taken(10, uint32(3), 5, 8)
	told := w.Came()
	for i := range told {
		told[i] = 77
	}
	told = append(told, 78)
	checkList(t, "Came", w.Came(), []uint32{3, 5, 8})
	check(t, "Fresh(4)", w.Fresh(4), true)
	check(t, "Fresh(77)", w.Fresh(77), true)

	kept := w.Came()
	w.Take(9)
	w.Take(12)
	checkList(t, "what was told", kept, []uint32{3, 5, 8})
	w.Clear()
	checkList(t, "what was told", kept, []uint32{3, 5, 8})
	check(t, "what was changed", len(told), 4)
}

// P8.3

func TestTakenOnceAtMost(t *testing.T) {
	source := rand.New(rand.NewPCG(2, 8))
	for _, size := range sizes() {
		w := New[uint64](size)
		taken := map[uint64]int{}
		for range 20000 {
			n := source.Uint64N(20000)
			if w.Take(n) {
				taken[n]++
			}
		}
		for n, times := range taken {
			check(t, fmt.Sprintf("size %d: how often %d was taken", size, n), times, 1)
		}
	}
}

func TestFreshBehindTheGreatest(t *testing.T) {
	for _, size := range sizes() {
		for _, start := range []uint64{8191, 8192, 9000, 9023, 1<<32 + 3, math.MaxUint64 - 1} {
			w := taken(size, start)
			for late := uint64(1); late < uint64(size); late++ {
				check(t, "Fresh", w.Fresh(start-late), true)
			}
			check(t, "Fresh of the greatest", w.Fresh(start), false)
			if start >= uint64(size) {
				check(t, "Fresh of what is late", w.Fresh(start-uint64(size)), false)
			}
			for late := uint64(size) - 1; late > 0; late-- {
				check(t, "Take", w.Take(start-late), true)
			}
			check(t, "len of Came", len(w.Came()), size)
		}
	}
}

// lateOrder has the counters from start on in a drawn order, in which each is late by less than size.
func lateOrder(source *rand.Rand, start uint64, many, size int) []uint64 {
	type one struct {
		n  uint64
		at int
	}
	order := make([]one, many)
	for i := range order {
		order[i] = one{start + uint64(i), i + source.IntN(size)}
	}
	// One that is greater by size or more has a greater at, whatever was drawn.
	slices.SortStableFunc(order, func(a, b one) int { return a.at - b.at })
	var out []uint64
	for _, o := range order {
		out = append(out, o.n)
	}
	return out
}

func TestEachIsTakenOnce(t *testing.T) {
	source := rand.New(rand.NewPCG(3, 8))
	for _, size := range sizes() {
		for _, start := range []uint64{0, 61, 1<<32 - 9000, math.MaxUint64 - 20000} {
			w := New[uint64](size)
			order := lateOrder(source, start, 20000, size)
			for i, n := range order {
				if !w.Take(n) {
					t.Fatalf("size %d: Take(%d) is false", size, n)
				}
				again := order[source.IntN(i+1)]
				if w.Fresh(again) || w.Take(again) {
					t.Fatalf("size %d: %d was taken twice", size, again)
				}
			}
			check(t, "Top", w.Top(), start+20000)
		}
	}
}

// As late as may be: each heap of size counters from the greatest down.
func TestHeapsFromTheGreatestDown(t *testing.T) {
	for _, size := range sizes() {
		w := New[uint32](size)
		for heap := range 4 {
			for i := range size {
				n := uint32(heap*size + size - 1 - i)
				check(t, fmt.Sprintf("size %d: Take(%d)", size, n), w.Take(n), true)
				check(t, fmt.Sprintf("size %d: Take(%d) once more", size, n), w.Take(n), false)
			}
			check(t, "len of Came", len(w.Came()), size)
			check(t, "Top", w.Top(), uint32((heap+1)*size))
		}
	}
}

// Nil and zero windows

func TestNilWindow(t *testing.T) {
	var w *Window[uint32]
	for _, n := range []uint32{0, 1, 64, math.MaxUint32} {
		check(t, "Fresh", w.Fresh(n), false)
		check(t, "Take", w.Take(n), false)
	}
	check(t, "Top", w.Top(), 0)
	check(t, "Size", w.Size(), 0)
	check(t, "len of Came", len(w.Came()), 0)
	w.Clear()
	c := w.Copy()
	if c == nil {
		t.Fatal("Copy: nil")
	}
	checkOne(t, "copy of nil", c)
}

// checkOne holds an empty window against one of Size 1.
func checkOne(t *testing.T, what string, w *Window[uint32]) {
	t.Helper()
	m := newModel[uint32](1)
	checkState(t, what, w, m, 0, 1, 64, math.MaxUint32)
	for _, n := range []uint32{3, 3, 2, 0, 4, 3, 4, 64, 63, 65, 64, 1 << 20, math.MaxUint32, math.MaxUint32 - 1, math.MaxUint32} {
		checkTake(t, what, w, m, n)
		checkState(t, what, w, m, 0, 1, 3, 64, math.MaxUint32)
	}
}

func TestZeroWindow(t *testing.T) {
	var taking, cleared, copied, asked Window[uint32]
	checkOne(t, "zero", &taking)
	cleared.Clear()
	checkOne(t, "zero that was cleared", &cleared)
	c := copied.Copy()
	checkOne(t, "copy of zero", c)
	checkOne(t, "zero that was copied", &copied)
	checkOne(t, "zero by new", new(Window[uint32]))

	asked.Fresh(9)
	asked.Take(math.MaxUint32)
	check(t, "Top of zero", asked.Top(), 0)
	check(t, "len of Came of zero", len(asked.Came()), 0)

	taking.Clear()
	checkOne(t, "zero that was used and cleared", &taking)
	used := copied.Copy()
	check(t, "Top of the copy", used.Top(), math.MaxUint32)
	checkList(t, "Came of the copy", used.Came(), []uint32{math.MaxUint32 - 1})
}
