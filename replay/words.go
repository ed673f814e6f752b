package replay

// Counters are bits of words that are gone round. A word is cleared as the greatest counter comes into it, so nobody sees there what came a round ago; and there are words enough that none is come into while a counter of it is remembered.

const wordBits = 64

// wordsFor are the words of so many counters: as many as these lie in at most, wherever in a word the least of them is.
func wordsFor(size int) []uint64 {
	return make([]uint64, (size+wordBits-2)/wordBits+1)
}

func bit[T Number](n T) uint64 { return 1 << (n % wordBits) }

// place is where the word of a counter lies.
func (w *Window[T]) place(n T) int {
	return int(n / wordBits % T(len(w.words)))
}

// has tells whether a counter came, for one that is not below low and below top.
func (w *Window[T]) has(n T) bool {
	return w.words[w.place(n)]&bit(n) != 0
}

// low is the least counter that is remembered.
func (w *Window[T]) low() T {
	if size := T(w.Size()); w.top > size {
		return w.top - size
	}
	return 0
}

// moveTo makes n, which is not below top, the greatest counter.
func (w *Window[T]) moveTo(n T) {
	// Where none came all words are clear.
	if w.top > 0 {
		w.clearBehind((w.top-1)/wordBits, n/wordBits)
	}
	w.top = n + 1
}

// clearBehind clears the words that are come into on the way from one word to another, which are both counted as if there were no round.
func (w *Window[T]) clearBehind(from, to T) {
	round := T(len(w.words))
	if to-from >= round {
		clear(w.words)
		return
	}
	for i := from + 1; i <= to; i++ {
		w.words[i%round] = 0
	}
}
