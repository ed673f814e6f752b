package blake

import (
	"crypto/hkdf"
	"crypto/hmac"
	"encoding/binary"
	"encoding/hex"
	library "hash"
	"math/rand/v2"
	"slices"
	"strings"
	"testing"

	"adit/api"
)

// The tests hold the package against a plain model, which lays all bytes out in one list and mixes by a table of places; against the HMAC and HKDF of Go's library, laid on that model; and against vectors of others.

func unhex(t *testing.T, digits string) string {
	t.Helper()
	b, err := hex.DecodeString(digits)
	if err != nil {
		t.Fatalf("no bytes: %s", digits)
	}
	return string(b)
}

func drawnText(source *rand.Rand, n int) string {
	b := make([]byte, n)
	for i := range b {
		b[i] = byte(source.Uint32())
	}
	return string(b)
}

// counted is 0, 1, 2 .. in n bytes, and 0 again behind the last number.
func counted(n, numbers int) string {
	b := make([]byte, n)
	for i := range b {
		b[i] = byte(i % numbers)
	}
	return string(b)
}

// lengths are those around one block, two and three.
func lengths() []int {
	return []int{0, 1, 2, 31, 32, 33, 55, 56, 63, 64, 65, 66, 127, 128, 129, 191, 192, 193, 300}
}

// cuts are ways to cut a text into pieces, empty ones among them.
func cuts(source *rand.Rand, text string) [][]string {
	var bytewise, drawn []string
	for i := range len(text) {
		bytewise = append(bytewise, text[i:i+1])
	}
	for rest := text; rest != ""; {
		n := source.IntN(min(len(rest), 80) + 1)
		drawn = append(drawn, rest[:n])
		rest = rest[n:]
	}
	return [][]string{{text}, {"", text, ""}, {text[:len(text)/2], text[len(text)/2:]}, bytewise, drawn}
}

func checkSum(t *testing.T, what string, got [32]byte, want string) {
	t.Helper()
	if string(got[:]) != want {
		t.Errorf("%s: %x, want %x", what, got, want)
	}
}

func wantKeyed(t *testing.T, size int, key, text string, want string) {
	t.Helper()
	got, errno := Keyed(size, key, text)
	if errno != api.OK || got != want {
		t.Errorf("Keyed(%d, %x, %d bytes): %x and error %d, want %x", size, key, len(text), got, errno, want)
	}
}

// The model.

var modelPlaces = [8][4]int{{0, 4, 8, 12}, {1, 5, 9, 13}, {2, 6, 10, 14}, {3, 7, 11, 15}, {0, 5, 10, 15}, {1, 6, 11, 12}, {2, 7, 8, 13}, {3, 4, 9, 14}}

const modelOrders = `0 1 2 3 4 5 6 7 8 9 a b c d e f
	e a 4 8 9 f d 6 1 c 0 2 b 7 5 3
	b 8 c 0 5 2 f d a e 3 6 7 1 9 4
	7 9 3 1 d c b e 2 6 5 a 4 0 f 8
	9 0 5 7 2 4 a f e 1 b c 6 8 3 d
	2 c 6 a 0 b 8 3 4 d 7 5 f e 1 9
	c 5 1 f e d 4 a 0 7 6 3 9 2 8 b
	d b 7 e c 1 3 9 5 0 f 4 8 6 2 a
	6 f e 9 b 3 0 8 c 2 d 7 1 4 a 5
	a 2 8 4 7 6 1 5 f b 9 e 3 c d 0`

func modelBeginnings() []uint32 {
	return []uint32{0x6a09e667, 0xbb67ae85, 0x3c6ef372, 0xa54ff53a, 0x510e527f, 0x9b05688c, 0x1f83d9ab, 0x5be0cd19}
}

func modelTurned(w uint64, by int) uint64 { return w>>by + w<<(32-by)%(1<<32) }

// modelMix goes over the four lines of half a mixing, twice.
func modelMix(v []uint64, p [4]int, x, y uint32) {
	a, b, c, d := p[0], p[1], p[2], p[3]
	for i, more := range []uint32{x, y} {
		v[a] = (v[a] + v[b] + uint64(more)) % (1 << 32)
		v[d] = modelTurned(v[d]^v[a], []int{16, 8}[i])
		v[c] = (v[c] + v[d]) % (1 << 32)
		v[b] = modelTurned(v[b]^v[c], []int{12, 7}[i])
	}
}

func modelTake(h []uint32, block string, t uint64, last bool) []uint32 {
	var v []uint64
	for _, w := range append(slices.Clone(h), modelBeginnings()...) {
		v = append(v, uint64(w))
	}
	v[12] ^= t % (1 << 32)
	v[13] ^= t / (1 << 32)
	if last {
		v[14] ^= 0xffffffff
	}
	for i, digit := range strings.Fields(modelOrders) {
		if i%2 == 0 {
			next := strings.Fields(modelOrders)[i+1]
			modelMix(v, modelPlaces[i/2%8], modelWord(block, digit), modelWord(block, next))
		}
	}
	var out []uint32
	for i := range h {
		out = append(out, h[i]^uint32(v[i])^uint32(v[i+8]))
	}
	return out
}

func modelWord(block, digit string) uint32 {
	return binary.LittleEndian.Uint32([]byte(block[4*strings.Index("0123456789abcdef", digit):]))
}

func modelHash(size int, key, text string) string {
	h := modelBeginnings()
	h[0] ^= 0x01010000 ^ uint32(256*len(key)) ^ uint32(size)
	all := text
	if key != "" {
		all = key + strings.Repeat("\x00", 64-len(key)) + text
	}
	for at := 0; at == 0 || at < len(all); at += 64 {
		end := min(at+64, len(all))
		block := all[at:end] + strings.Repeat("\x00", 64-(end-at))
		h = modelTake(h, block, uint64(end), end == len(all))
	}
	var out []byte
	for _, w := range h {
		out = binary.LittleEndian.AppendUint32(out, w)
	}
	return string(out[:size])
}

// modelWriter is the model as the library's HMAC and HKDF want it.
type modelWriter struct{ text string }

func newModelWriter() library.Hash { return &modelWriter{} }

func (w *modelWriter) Write(b []byte) (int, error) {
	w.text += string(b)
	return len(b), nil
}
func (w *modelWriter) Sum(b []byte) []byte { return append(b, modelHash(32, "", w.text)...) }
func (w *modelWriter) Reset()              { w.text = "" }
func (w *modelWriter) Size() int           { return 32 }
func (w *modelWriter) BlockSize() int      { return 64 }

func libraryMAC(key, text string) string {
	m := hmac.New(newModelWriter, []byte(key))
	m.Write([]byte(text))
	return string(m.Sum(nil))
}

func libraryChain(t *testing.T, n int, key [32]byte, input string) string {
	t.Helper()
	keys, err := hkdf.Key(newModelWriter, []byte(input), key[:], "", 32*n)
	if err != nil {
		t.Fatal(err)
	}
	return string(keys)
}

// The chapter's examples, and other vectors.

func TestExamples(t *testing.T) {
	nothing := unhex(t, "69217a3079908094e11121d042354a7c1f55b6482ca1a51e1b250dfd1ed0eef9")
	checkSum(t, "Sum of nothing", Sum(), nothing)
	checkSum(t, "Sum of an empty piece", Sum(""), nothing)
	checkSum(t, "Sum of abc", Sum("abc"), unhex(t, "508c5e8c327c14e2e1a72ba34eeb452f37458b209ed63a294d999b4c86675982"))
	got, errno := Keyed(32, counted(32, 256))
	if errno != api.OK || got != unhex(t, "48a8997da407876b3d79c0d92325ad3b89cbb754d86ab71aee047ad345fd2c49") {
		t.Errorf("Keyed of nothing: %x and error %d", got, errno)
	}
	for _, size := range []int{0, 33} {
		if got, errno := Keyed(size, "key", "text"); got != "" || errno != api.ErrArg {
			t.Errorf("Keyed(%d, ..): %x and error %d", size, got, errno)
		}
	}
	if keys, errno := Chain(0, [32]byte{}, "input"); len(keys) != 0 || errno != api.ErrArg {
		t.Errorf("Chain(0, ..): %x and error %d", keys, errno)
	}
}

// selfTestBytes is the sequence of RFC 7693, appendix E.
func selfTestBytes(n int) string {
	a, b := 0xDEAD4BAD*uint32(n), uint32(1)
	var out []byte
	for range n {
		a, b = b, a+b
		out = append(out, byte(b>>24))
	}
	return string(out)
}

// The self-test of RFC 7693, appendix E: a hash of many hashes.
func TestSelfTest(t *testing.T) {
	var hashes []string
	for _, size := range []int{16, 20, 28, 32} {
		for _, n := range []int{0, 3, 64, 65, 255, 1024} {
			for _, key := range []string{"", selfTestBytes(size)} {
				got, errno := Keyed(size, key, selfTestBytes(n))
				if errno != api.OK || len(got) != size {
					t.Fatalf("Keyed(%d, %d bytes, ..): %d bytes and error %d", size, len(key), len(got), errno)
				}
				hashes = append(hashes, got)
			}
		}
	}
	checkSum(t, "self-test", Sum(hashes...), unhex(t, "6a411f08ce25adcdfb02aba641451cec53c598b24f4fc787fbdc88797f4c1dfe"))
}

// The vectors that BLAKE2's authors published: texts 0, 1, 2 .. by a key 0, 1, 2 ..; the hash of all 256 of them was made by Python's hashlib.
func TestKeyedVectors(t *testing.T) {
	key := counted(32, 256)
	for n, want := range map[int]string{
		1:   "40d15fee7c328830166ac3f918650f807e7e01e177258cdc0a39b11f598066f1",
		2:   "6bb71300644cd3991b26ccd4d274acd1adeab8b1d7914546c1198bbe9fc9d803",
		63:  "c65382513f07460da39833cb666c5ed82e61b9e998f4b0c4287cee56c3cc9bcd",
		64:  "8975b0577fd35566d750b362b0897a26c399136df07bababbde6203ff2954ed4",
		65:  "21fe0ceb0052be7fb0f004187cacd7de67fa6eb0938d927677f2398c132317a8",
		128: "0c311f38c35a4fb90d651c289d486856cd1413df9b0677f53ece2cd9e477c60a",
		255: "3fb735061abc519dfe979e54c1ee5bfad0a9d858b3315bad34bde999efd724dd",
	} {
		wantKeyed(t, 32, key, counted(n, 256), unhex(t, want))
	}
	var all []string
	for n := range 256 {
		got, _ := Keyed(32, key, counted(n, 256))
		all = append(all, got)
	}
	checkSum(t, "all vectors", Sum(all...), unhex(t, "2582f7b18a91f66ef22aa9455384ada69b2590306a6470ee8588df75ee982f02"))
}

// Made by Python's hashlib.
func TestOtherVectors(t *testing.T) {
	for n, want := range map[int]string{
		63:   "e57cb79487dd57902432b250733813bd96a84efce59f650fac26e6696aefafc3",
		64:   "56f34e8b96557e90c1f24b52d0c89d51086acf1b00f634cf1dde9233b8eaaa3e",
		65:   "1b53ee94aaf34e4b159d48de352c7f0661d0a40edff95a0b1639b4090e974472",
		128:  "1fa877de67259d19863a2a34bcc6962a2b25fcbf5cbecd7ede8f1fa36688a796",
		129:  "5bd169e67c82c2c2e98ef7008bdf261f2ddf30b1c00f9e7f275bb3e8a28dc9a2",
		1000: "1c067a5e746fb0f6734efac9a8cdb0e11061f0077f255184365c690115392501",
	} {
		checkSum(t, "Sum", Sum(counted(n, 251)), unhex(t, want))
	}
	checkSum(t, "Sum of 100000 zeros", Sum(strings.Repeat("\x00", 100000)), unhex(t, "c4aef4fbcef66bff322716b65e30321f71ce66a1954040d3631cb5812797e490"))
	wantKeyed(t, 1, "", "", unhex(t, "a1"))
	wantKeyed(t, 1, strings.Repeat("k", 32), "x", unhex(t, "0c"))
	wantKeyed(t, 16, "", "abc", unhex(t, "aa4938119b1dc7b87cbad0ffd200d0ae"))
	wantKeyed(t, 16, strings.Repeat("k", 16), "abc", unhex(t, "c147470a6a51f99ac086eab2ffe4852e"))
	wantKeyed(t, 20, "k", "abc", unhex(t, "8a598b6c353f80828a44668da0f6d0a082f9bf5e"))
	wantKeyed(t, 31, strings.Repeat("k", 31), strings.Repeat("a", 64), unhex(t, "a548a7420140214f53a0c35758ec47736d478589bd2c2e4e9d4e8afb8e1113"))
}

// P6.1

func TestSum(t *testing.T) {
	source := rand.New(rand.NewPCG(6, 1))
	for n := range 260 {
		text := drawnText(source, n)
		checkSum(t, "Sum", Sum(text), modelHash(32, "", text))
	}
}

func TestKeyed(t *testing.T) {
	source := rand.New(rand.NewPCG(6, 2))
	for size := 1; size <= 32; size++ {
		for keyLength := range 33 {
			key, text := drawnText(source, keyLength), drawnText(source, source.IntN(200))
			wantKeyed(t, size, key, text, modelHash(size, key, text))
		}
	}
	for _, n := range lengths() {
		for _, keyLength := range []int{0, 1, 16, 31, 32} {
			key, text := drawnText(source, keyLength), drawnText(source, n)
			wantKeyed(t, 32, key, text, modelHash(32, key, text))
		}
	}
}

func TestKeyedOfNoKeyIsSum(t *testing.T) {
	for _, n := range lengths() {
		sum := Sum(counted(n, 251))
		wantKeyed(t, 32, "", counted(n, 251), string(sum[:]))
	}
}

// A key is no text ahead of the text, a longer one of zeros is another, and a shorter hash is no beginning of a longer one.
func TestKeysAndSizesCount(t *testing.T) {
	seen := map[string]string{}
	for size := 4; size <= 32; size++ {
		for keyLength := range 33 {
			got, _ := Keyed(size, strings.Repeat("\x00", keyLength), strings.Repeat("\x00", 64))
			if _, ok := seen[got[:4]]; ok {
				t.Errorf("size %d and %d zeros for a key: %x was told already", size, keyLength, got)
			}
			seen[got[:4]] = got
		}
	}
}

func TestKeyedRefuses(t *testing.T) {
	long, whole := strings.Repeat("k", 33), strings.Repeat("k", 32)
	for _, c := range []struct {
		size int
		key  string
	}{{0, ""}, {-1, ""}, {33, ""}, {-1 << 63, ""}, {1<<63 - 1, ""}, {0, whole}, {33, whole}, {288, ""}, {1, long}, {16, long}, {32, long}, {0, long}, {33, long}, {32, strings.Repeat("k", 64)}, {32, strings.Repeat("k", 70000)}} {
		got, errno := Keyed(c.size, c.key, "text")
		if got != "" || errno != api.ErrArg {
			t.Errorf("Keyed(%d, %d bytes, ..): %x and error %d", c.size, len(c.key), got, errno)
		}
	}
}

// No text that a test can hold has 2^32 bytes, so the count's upper half is looked at here.
func TestTakingCountsBeyond32Bits(t *testing.T) {
	source := rand.New(rand.NewPCG(6, 3))
	for _, taken := range []uint64{0, 1, 64, 1<<32 - 1, 1 << 32, 1<<32 + 64, 0x0123456789abcdef, 1 << 63, 1<<64 - 1} {
		for _, last := range []bool{false, true} {
			block := drawnText(source, 64)
			s := firstState(32, 0)
			got, want := s.behind([64]byte([]byte(block)), taken, last), modelTake(s[:], block, taken, last)
			if !slices.Equal(got[:], want) {
				t.Errorf("behind %d bytes, last %v: %08x, want %08x", taken, last, got, want)
			}
		}
	}
}

func TestCountCarries(t *testing.T) {
	first, second := counted(64, 256), counted(9, 256)
	h := begun(32, "")
	h.taken = 1<<32 - 64
	s := h.state
	h.add(first, second)
	between := modelTake(s[:], first, 1<<32, false)
	want := modelTake(between, second+strings.Repeat("\x00", 55), 1<<32+9, true)
	got := h.end()
	for i, w := range want {
		if binary.LittleEndian.Uint32(got[4*i:]) != w {
			t.Errorf("word %d is %x, want %08x", i, got[4*i:4*i+4], w)
		}
	}
}

// P6.2

func TestMAC(t *testing.T) {
	source := rand.New(rand.NewPCG(6, 4))
	for _, keyLength := range lengths() {
		for _, n := range lengths() {
			key, text := drawnText(source, keyLength), drawnText(source, n)
			checkSum(t, "MAC", MAC(key, text), libraryMAC(key, text))
		}
	}
	checkSum(t, "MAC of nothing", MAC(""), libraryMAC("", ""))
	checkSum(t, "MAC of no pieces", MAC("key"), libraryMAC("key", ""))
}

// Made by Python's hmac; the texts are those of RFC 2202 and others.
func TestMACVectors(t *testing.T) {
	for _, v := range []struct{ key, text, want string }{
		{"", "", "eaf4bb25938f4d20e72656bbbc7a9bf63c0c18537333c35bdb67db1402661acd"},
		{"key", "The quick brown fox jumps over the lazy dog", "f93215bb90d4af4c3061cd932fb169fb8bb8a91d0b4022baea1271e1323cd9a0"},
		{strings.Repeat("\x0b", 20), "Hi There", "65a8b7c5cc9136d424e82c37e2707e74e913c0655b99c75f40edf387453a3260"},
		{"Jefe", "what do ya want for nothing?", "90b6281e2f3038c9056af0b4a7e763cae6fe5d9eb4386a0ec95237890c104ff0"},
		{strings.Repeat("\xaa", 64), "x", "aefb6603649ba07965068313c76080c1fcf754bc2cd3cf6422df5b357f7338e8"},
		{strings.Repeat("\xaa", 65), "x", "c0f2bd268d2f9eca28beab3a75f600491c29c14e6e018aa6b4995b407dcde488"},
		{strings.Repeat("\xaa", 131), "Test Using Larger Than Block-Size Key - Hash Key First", "d23d79394f53d536a096e6514447eeaabb05ded01be32c1937da6a8f7103bc4e"},
	} {
		checkSum(t, "MAC", MAC(v.key, v.text), unhex(t, v.want))
	}
}

// A key of up to 64 bytes is filled with zeros, a longer one stands for its hash.
func TestKeysOfMAC(t *testing.T) {
	for n := range 130 {
		key := counted(n, 251) + "k"
		same := key + "\x00"
		if len(key) > 64 {
			sum := Sum(key)
			same = string(sum[:])
		}
		if alike := MAC(key, "text") == MAC(same, "text"); alike != (len(key) != 64) {
			t.Errorf("MAC by %d bytes is that by %d: %v", len(key), len(same), alike)
		}
	}
}

// P6.3

func TestChain(t *testing.T) {
	source := rand.New(rand.NewPCG(6, 5))
	for n := 1; n <= 8; n++ {
		for _, length := range lengths() {
			key, input := [32]byte([]byte(drawnText(source, 32))), drawnText(source, length)
			keys, errno := Chain(n, key, input)
			if errno != api.OK || len(keys) != n {
				t.Fatalf("Chain(%d, ..): %d keys and error %d", n, len(keys), errno)
			}
			want := libraryChain(t, n, key, input)
			for i, got := range keys {
				checkSum(t, "a key of Chain", got, want[32*i:32*i+32])
			}
		}
	}
}

func TestChainGoesByMAC(t *testing.T) {
	key := [32]byte{31: 7}
	z := MAC(string(key[:]), "input")
	first := MAC(string(z[:]), "\x01")
	second := MAC(string(z[:]), string(first[:])+"\x02")
	third := MAC(string(z[:]), string(second[:])+"\x03")
	if keys, errno := Chain(3, key, "input"); errno != api.OK || !slices.Equal(keys, [][32]byte{first, second, third}) {
		t.Errorf("Chain: %x and error %d", keys, errno)
	}
}

func TestChainRefuses(t *testing.T) {
	for _, n := range []int{0, -1, 9, 10, 255, 256, 257, -1 << 63, 1<<63 - 1} {
		if keys, errno := Chain(n, [32]byte{1}, "input"); len(keys) != 0 || errno != api.ErrArg {
			t.Errorf("Chain(%d, ..): %x and error %d", n, keys, errno)
		}
	}
}

// What is told is its owner's.
func TestChainsAreNew(t *testing.T) {
	first, _ := Chain(8, [32]byte{1}, "input")
	again := slices.Clone(first)
	clear(first)
	if second, _ := Chain(8, [32]byte{1}, "input"); !slices.Equal(second, again) {
		t.Errorf("a chain that was cleared changed the next one: %x", second)
	}
}

// P6.4

func TestCutsDoNotMatter(t *testing.T) {
	source := rand.New(rand.NewPCG(6, 6))
	for _, n := range lengths() {
		text := drawnText(source, n)
		sum, keyed, mac := modelHash(32, "", text), modelHash(16, "key", text), libraryMAC("key", text)
		for _, pieces := range cuts(source, text) {
			before := slices.Clone(pieces)
			checkSum(t, "Sum of pieces", Sum(pieces...), sum)
			if got, errno := Keyed(16, "key", pieces...); got != keyed || errno != api.OK {
				t.Errorf("Keyed of %d pieces: %x and error %d, want %x", len(pieces), got, errno, keyed)
			}
			checkSum(t, "MAC of pieces", MAC("key", pieces...), mac)
			if !slices.Equal(pieces, before) {
				t.Errorf("the pieces were changed: %q, want %q", pieces, before)
			}
		}
	}
}

func TestEachCutInTwo(t *testing.T) {
	text := counted(200, 251)
	sum, keyed, mac := Sum(text), modelHash(32, "k", text), MAC("k", text)
	for i := range len(text) + 1 {
		if Sum(text[:i], text[i:]) != sum || MAC("k", text[:i], text[i:]) != mac {
			t.Errorf("cut at %d: another hash", i)
		}
		if got, _ := Keyed(32, "k", text[:i], text[i:]); got != keyed {
			t.Errorf("cut at %d: another keyed hash", i)
		}
	}
}

func TestLongerChainsBeginWithShorterOnes(t *testing.T) {
	source := rand.New(rand.NewPCG(6, 7))
	for range 20 {
		key, input := [32]byte([]byte(drawnText(source, 32))), drawnText(source, source.IntN(100))
		whole, _ := Chain(8, key, input)
		for n := 1; n <= 8; n++ {
			if keys, errno := Chain(n, key, input); errno != api.OK || !slices.Equal(keys, whole[:n]) {
				t.Errorf("Chain(%d, ..): %x and error %d, want %x", n, keys, errno, whole[:n])
			}
		}
	}
}

func FuzzKeyed(f *testing.F) {
	f.Add(32, "key", "one", "another")
	f.Add(0, "", "", "")
	f.Add(33, strings.Repeat("k", 33), strings.Repeat("t", 64), "")
	f.Fuzz(func(t *testing.T, size int, key, one, another string) {
		got, errno := Keyed(size, key, one, another)
		if size < 1 || size > 32 || len(key) > 32 {
			if got != "" || errno != api.ErrArg {
				t.Errorf("Keyed(%d, %x, ..): %x and error %d", size, key, got, errno)
			}
			return
		}
		if want := modelHash(size, key, one+another); got != want || errno != api.OK {
			t.Errorf("Keyed(%d, %x, ..): %x and error %d, want %x", size, key, got, errno, want)
		}
	})
}
