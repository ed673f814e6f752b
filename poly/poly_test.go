package poly

import (
	"encoding/hex"
	"math/big"
	"math/rand/v2"
	"slices"
	"strings"
	"testing"
)

// The tests hold the package against a plain model, which goes by the chapter's words in numbers of any size, and against vectors that others published.

func unhex(t *testing.T, digits string) []byte {
	t.Helper()
	b, err := hex.DecodeString(digits)
	if err != nil {
		t.Fatalf("no bytes: %s", digits)
	}
	return b
}

func drawnBytes(source *rand.Rand, n int) []byte {
	b := make([]byte, n)
	for i := range b {
		b[i] = byte(source.Uint32())
	}
	return b
}

func checkMark(t *testing.T, what string, got, want [16]byte) {
	t.Helper()
	if got != want {
		t.Errorf("%s: %x, want %x", what, got, want)
	}
}

func wantTag(t *testing.T, key [32]byte, text string) {
	t.Helper()
	if got, want := Tag(key, text), modelTag(key, text); got != want {
		t.Errorf("Tag of key %x and %d bytes %x: %x, want %x", key, len(text), text, got, want)
	}
}

// The model.

func power(n uint) *big.Int { return new(big.Int).Lsh(big.NewInt(1), n) }

func prime() *big.Int { return new(big.Int).Sub(power(130), big.NewInt(5)) }

func modelNumber(b []byte) *big.Int {
	high := slices.Clone(b)
	slices.Reverse(high)
	return new(big.Int).SetBytes(high)
}

// modelBytes is the number below 2^128 as 16 bytes, the lowest first.
func modelBytes(n *big.Int) (out [16]byte) {
	n.FillBytes(out[:])
	slices.Reverse(out[:])
	return out
}

func modelR(key [32]byte) *big.Int {
	for _, i := range []int{3, 7, 11, 15} {
		key[i] %= 16
	}
	for _, i := range []int{4, 8, 12} {
		key[i] -= key[i] % 4
	}
	return modelNumber(key[:16])
}

func modelTag(key [32]byte, text string) [16]byte {
	r, sum := modelR(key), new(big.Int)
	for block := range slices.Chunk([]byte(text), 16) {
		sum.Add(sum, modelNumber(append(slices.Clone(block), 1)))
		sum.Mul(sum, r)
		sum.Mod(sum, prime())
	}
	sum.Add(sum, modelNumber(key[16:]))
	return modelBytes(sum.Mod(sum, power(128)))
}

func modelOfLimbs(x limbs) *big.Int {
	n := new(big.Int)
	for i := range x {
		n.Add(n, new(big.Int).Lsh(new(big.Int).SetUint64(x[i]), uint(26*i)))
	}
	return n
}

// keyOf is a key of given halves, the first one not yet r.
func keyOf(first, last []byte) (key [32]byte) {
	copy(key[:16], first)
	copy(key[16:], last)
	return key
}

var (
	zeros = make([]byte, 16)
	ones  = slices.Repeat([]byte{0xff}, 16)
)

func exampleKey(t *testing.T) [32]byte {
	return [32]byte(unhex(t, "85d6be7857556d337f4452fe42d506a80103808afb0db2fd4abff6af4149f51b"))
}

func TestExamples(t *testing.T) {
	got := Tag(exampleKey(t), "Cryptographic Forum Research Group")
	checkMark(t, "Tag", got, [16]byte(unhex(t, "a8061dc1305136c6c22b8baf0c0127a9")))
	source := rand.New(rand.NewPCG(1, 4))
	for range 200 {
		key := [32]byte(drawnBytes(source, 32))
		checkMark(t, "Tag of no pieces", Tag(key), [16]byte(key[16:]))
		checkMark(t, "Tag of no bytes", Tag(key, "", ""), [16]byte(key[16:]))
		checkMark(t, "Sum of no bytes", New(key).Sum(), [16]byte(key[16:]))
	}
}

// P4.1

const (
	submission = "Any submission to the IETF intended by the Contributor for publication as all or part of an IETF Internet-Draft or RFC and any statement made within the context of an IETF activity is considered an \"IETF Contribution\". Such statements include oral statements in IETF sessions, as well as written and electronic communications made at any time or place, which are addressed to"
	brillig    = "'Twas brillig, and the slithy toves\nDid gyre and gimble in the wabe:\nAll mimsy were the borogoves,\nAnd the mome raths outgrabe."
)

func TestTagVectors(t *testing.T) {
	none, one, two := strings.Repeat("0", 32), "01"+strings.Repeat("0", 30), "02"+strings.Repeat("0", 30)
	ff := strings.Repeat("f", 32)
	tall := "01000000000000000400000000000000"
	long := "e33594d7505e43b900000000000000003394d7505e4379cd0100000000000000" + none
	for _, v := range []struct{ key, text, want string }{
		{none + none, strings.Repeat(none, 4), none},
		{none + "36e5f6b5c5e06070f0efca96227a863e", hex.EncodeToString([]byte(submission)), "36e5f6b5c5e06070f0efca96227a863e"},
		{"36e5f6b5c5e06070f0efca96227a863e" + none, hex.EncodeToString([]byte(submission)), "f3477e7cd95417af89a6b8794c310cf0"},
		{"1c9240a5eb55d38af333888604f6b5f0473917c1402b80099dca5cbc207075c0", hex.EncodeToString([]byte(brillig)), "4541669a7eaaee61e708dc7cbcc5eb62"},
		{two + none, ff, "03" + none[2:]},
		{two + ff, two, "03" + none[2:]},
		{one + none, ff + "f0" + ff[2:] + "11" + none[2:], "05" + none[2:]},
		{one + none, ff + "fb" + strings.Repeat("fe", 15) + strings.Repeat("01", 16), none},
		{two + none, "fd" + ff[2:], "fa" + ff[2:]},
		{tall + none, long + one, "14000000000000005500000000000000"},
		{tall + none, long, "13" + none[2:]},
	} {
		got := Tag([32]byte(unhex(t, v.key)), string(unhex(t, v.text)))
		checkMark(t, "Tag by "+v.key+" of "+v.text, got, [16]byte(unhex(t, v.want)))
	}
}

// Every length to beyond six blocks, by drawn keys and by those of the edges.
func TestTag(t *testing.T) {
	source := rand.New(rand.NewPCG(2, 4))
	for n := range 100 {
		for range 20 {
			key := [32]byte(drawnBytes(source, 32))
			wantTag(t, key, string(drawnBytes(source, n)))
		}
		for _, first := range [][]byte{zeros, ones, {1}, {2}, {15: 0x0f}, drawnBytes(source, 16)} {
			for _, last := range [][]byte{zeros, ones, {15: 0x80}, drawnBytes(source, 16)} {
				wantTag(t, keyOf(first, last), strings.Repeat("\x00", n))
				wantTag(t, keyOf(first, last), strings.Repeat("\xff", n))
				wantTag(t, keyOf(first, last), string(drawnBytes(source, n)))
			}
		}
	}
	for _, n := range []int{1000, 1024, 65535, 100003} {
		wantTag(t, keyOf(ones, ones), strings.Repeat("\xff", n))
		wantTag(t, [32]byte(drawnBytes(source, 32)), string(drawnBytes(source, n)))
	}
}

// Each bit of the key does its part, or none: of r those that the chapter takes out.
func TestTagKeyBits(t *testing.T) {
	text := "a text of three blocks, the last one shorter"
	for _, base := range [][]byte{zeros, ones} {
		for i := range 256 {
			key := keyOf(base, base)
			key[i/8] ^= 1 << (i % 8)
			wantTag(t, key, text)
			without := slices.Contains([]int{3, 7, 11, 15}, i/8) && i%8 >= 4 || slices.Contains([]int{4, 8, 12}, i/8) && i%8 < 2
			if same := Tag(key, text) == Tag(keyOf(base, base), text); same != without {
				t.Errorf("bit %d of the key: same mark %v, want %v", i, same, without)
			}
		}
	}
}

// Each bit of a text, whole blocks and not, changes its mark as the model says.
func TestTagTextBits(t *testing.T) {
	key := exampleKey(t)
	for _, n := range []int{1, 15, 16, 17, 31, 32, 40} {
		for i := range 8 * n {
			text := slices.Repeat([]byte{0x5a}, n)
			text[i/8] ^= 1 << (i % 8)
			wantTag(t, key, string(text))
		}
	}
}

// Zeros behind a text are bytes of it: the byte behind a block tells its length.
func TestTagOfZerosBehind(t *testing.T) {
	seen := map[[16]byte]int{}
	for n := range 50 {
		seen[Tag(exampleKey(t), strings.Repeat("\x00", n))]++
	}
	if len(seen) != 50 {
		t.Errorf("50 lengths have %d marks", len(seen))
	}
}

// blocksOf is a text of whole blocks whose numbers add up to sum, drawn but for the last block.
func blocksOf(t *testing.T, source *rand.Rand, sum *big.Int, blocks int) string {
	left := new(big.Int).Sub(sum, new(big.Int).Mul(power(128), big.NewInt(int64(blocks))))
	var text []byte
	for range blocks - 1 {
		block := drawnBytes(source, 16)
		block[15] = 0 // so that the last one needn't be below 0
		left.Sub(left, modelNumber(block))
		text = append(text, block...)
	}
	if left.Sign() < 0 || left.BitLen() > 128 {
		t.Fatalf("no block: %x", left)
	}
	last := modelBytes(left)
	return string(append(text, last[:]...))
}

// With r = 1 the mark is the blocks' sum: here around 2^130 - 5, 2^130 and twice of them, with an s that is nothing or carries.
func TestTagAroundThePrime(t *testing.T) {
	source := rand.New(rand.NewPCG(3, 4))
	for _, c := range []struct{ times, blocks int }{{1, 3}, {2, 7}, {3, 11}, {16, 63}} {
		for more := range 40 {
			sum := new(big.Int).Mul(prime(), big.NewInt(int64(c.times)))
			sum.Add(sum, big.NewInt(int64(more-20)))
			text := blocksOf(t, source, sum, c.blocks)
			rest := new(big.Int).Mod(sum, prime())
			key := keyOf([]byte{1}, zeros)
			checkMark(t, "Tag", Tag(key, text), modelBytes(rest.Mod(rest, power(128))))
			wantTag(t, key, text)
			wantTag(t, keyOf([]byte{1}, ones), text)
			wantTag(t, keyOf([]byte{1}, []byte{6}), text)
		}
	}
}

// The digits' room: sums and products of the greatest that times and least may be handed.
func TestLimbs(t *testing.T) {
	source := rand.New(rand.NewPCG(4, 4))
	digit := func(most uint64) uint64 {
		return []uint64{0, 1, most / 2, most - 1, most, source.Uint64N(most + 1)}[source.IntN(6)]
	}
	for range 20000 {
		var x, y, z limbs
		for i := range 5 {
			x[i], y[i], z[i] = digit(1<<28), digit(1<<26), digit(1<<26-1)
		}
		got := times(x, y)
		want := new(big.Int).Mul(modelOfLimbs(x), modelOfLimbs(y))
		if rest := new(big.Int).Sub(want, modelOfLimbs(got)); rest.Mod(rest, prime()).Sign() != 0 {
			t.Fatalf("%x times %x: %x", x, y, got)
		}
		for i := range got {
			if most := uint64(1<<26 - 1); got[i] > most && (i != 1 || got[i] > most+1<<12) {
				t.Fatalf("%x times %x: digits %x", x, y, got)
			}
		}
		z[1] += digit(1 << 12)
		if want := modelOfLimbs(z); want.Mod(want, prime()).Cmp(modelOfLimbs(least(z))) != 0 {
			t.Fatalf("least of %x: %x", z, least(z))
		}
	}
	for _, low := range []uint64{0, 1, 1<<26 - 7, 1<<26 - 6, 1<<26 - 5, 1<<26 - 4, 1<<26 - 2, 1<<26 - 1} {
		for _, second := range []uint64{0, 1, 1<<26 - 1, 1 << 26, 1<<26 + 1, 1<<26 + 1<<12} {
			x := limbs{low, second, 1<<26 - 1, 1<<26 - 1, 1<<26 - 1}
			if want := modelOfLimbs(x); want.Mod(want, prime()).Cmp(modelOfLimbs(least(x))) != 0 {
				t.Errorf("least of %x: %x", x, least(x))
			}
		}
	}
}

// P4.2

// A MAC tells the mark at each step, and goes on as if it was not asked.
func TestSumGoesOn(t *testing.T) {
	source := rand.New(rand.NewPCG(5, 4))
	for range 200 {
		key := [32]byte(drawnBytes(source, 32))
		m := New(key)
		if m == nil {
			t.Fatal("New is nil")
		}
		var all strings.Builder
		for range 20 {
			piece := string(drawnBytes(source, source.IntN(40)))
			m.Write(piece)
			all.WriteString(piece)
			for range source.IntN(3) {
				checkMark(t, "Sum", m.Sum(), modelTag(key, all.String()))
			}
		}
		checkMark(t, "Sum", m.Sum(), modelTag(key, all.String()))
	}
}

func TestWriteNothing(t *testing.T) {
	key := exampleKey(t)
	for n := range 40 {
		text := strings.Repeat("n", n)
		m := New(key)
		m.Write()
		m.Write(text)
		m.Write()
		m.Write("")
		m.Write("", "", "")
		m.Write(nil...)
		checkMark(t, "Sum", m.Sum(), modelTag(key, text))
	}
}

func TestNil(t *testing.T) {
	var m *MAC
	m.Write()
	m.Write("text", strings.Repeat("long", 20))
	checkMark(t, "Sum of nil", m.Sum(), [16]byte{})
}

func TestNotMadeByNew(t *testing.T) {
	for n := range 50 {
		text := strings.Repeat("z", n)
		var zero MAC
		made, literal := new(MAC), &MAC{}
		checkMark(t, "Sum of a zero MAC", zero.Sum(), [16]byte{})
		for _, m := range []*MAC{&zero, made, literal} {
			m.Write(text[:n/2])
			m.Write(text[n/2:])
			checkMark(t, "Sum of a MAC that New did not make", m.Sum(), modelTag([32]byte{}, text))
			checkMark(t, "the same, by Tag", m.Sum(), Tag([32]byte{}, text))
		}
	}
}

// Two MACs, and a copy of one, know nothing of each other.
func TestApart(t *testing.T) {
	key, other := exampleKey(t), [32]byte{1: 7, 20: 9}
	m, n := New(key), New(other)
	m.Write("to the first, ")
	n.Write("to the other, which is longer")
	copied := *m
	m.Write("and more of it")
	copied.Write("and another end")
	checkMark(t, "the first", m.Sum(), modelTag(key, "to the first, and more of it"))
	checkMark(t, "the copy", copied.Sum(), modelTag(key, "to the first, and another end"))
	checkMark(t, "the other", n.Sum(), modelTag(other, "to the other, which is longer"))
}

// What is told and handed in is its owner's.
func TestMemory(t *testing.T) {
	key := exampleKey(t)
	pieces := []string{"one piece", " and one more, beyond a block"}
	want := modelTag(key, strings.Join(pieces, ""))
	handed := key
	m := New(handed)
	handed[0], handed[31] = 9, 9
	m.Write(pieces...)
	if pieces[0] != "one piece" || pieces[1] != " and one more, beyond a block" {
		t.Errorf("the pieces are %q", pieces)
	}
	pieces[0], pieces[1] = "", "x"
	told := m.Sum()
	told[0]++
	checkMark(t, "Sum", m.Sum(), want)
}

// P4.3

// cut is a text in pieces at drawn places, empty ones among them.
func cut(source *rand.Rand, text string) []string {
	var pieces []string
	for len(text) > 0 {
		n := min(source.IntN(36), len(text))
		pieces = append(pieces, text[:n])
		text = text[n:]
	}
	return pieces
}

func TestPieces(t *testing.T) {
	source := rand.New(rand.NewPCG(6, 4))
	for n := range 150 {
		key, text := [32]byte(drawnBytes(source, 32)), string(drawnBytes(source, n))
		want := modelTag(key, text)
		for range 20 {
			pieces := cut(source, text)
			checkMark(t, "Tag in pieces", Tag(key, pieces...), want)
			m, at := New(key), source.IntN(len(pieces)+1)
			m.Write(pieces[:at]...)
			m.Write(pieces[at:]...)
			checkMark(t, "two Writes", m.Sum(), want)
		}
		var single []string
		for i := range n {
			single = append(single, text[i:i+1])
		}
		checkMark(t, "byte by byte", Tag(key, single...), want)
	}
}

func TestTwoPieces(t *testing.T) {
	key := exampleKey(t)
	text := strings.Repeat("\xff\x00piece", 10)
	want := modelTag(key, text)
	for i := range len(text) + 1 {
		for j := i; j <= len(text); j++ {
			checkMark(t, "Tag", Tag(key, text[:i], text[i:j], text[j:]), want)
			m := New(key)
			m.Write(text[:i], text[i:j])
			m.Write(text[j:])
			checkMark(t, "Write", m.Sum(), want)
		}
	}
}
