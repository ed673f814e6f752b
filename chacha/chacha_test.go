package chacha

import (
	"crypto/sha256"
	"encoding/binary"
	"encoding/hex"
	"math/rand/v2"
	"strings"
	"testing"
)

// The tests hold the package against a plain model, which goes by a table of places and by sums in 64 bits, and against vectors that others published.

func unhex(t *testing.T, digits string) []byte {
	t.Helper()
	b, err := hex.DecodeString(digits)
	if err != nil {
		t.Fatalf("no bytes: %s", digits)
	}
	return b
}

func countedKey() [32]byte {
	var key [32]byte
	for i := range key {
		key[i] = byte(i)
	}
	return key
}

func drawnBytes(source *rand.Rand, n int) []byte {
	b := make([]byte, n)
	for i := range b {
		b[i] = byte(source.Uint32())
	}
	return b
}

func checkBytes(t *testing.T, what string, got, want []byte) {
	t.Helper()
	if string(got) != string(want) {
		t.Errorf("%s: %x, want %x", what, got, want)
	}
}

// The model.

var modelPlaces = [8][4]int{{0, 4, 8, 12}, {1, 5, 9, 13}, {2, 6, 10, 14}, {3, 7, 11, 15}, {0, 5, 10, 15}, {1, 6, 11, 12}, {2, 7, 8, 13}, {3, 4, 9, 14}}

// modelQuarter goes over a, d, c, b in turn: each line adds a word to another one and turns a third one.
func modelQuarter(words [4]uint32) [4]uint32 {
	for _, line := range [4][4]int{{0, 1, 3, 16}, {2, 3, 1, 12}, {0, 1, 3, 8}, {2, 3, 1, 7}} {
		sum := (uint64(words[line[0]]) + uint64(words[line[1]])) % (1 << 32)
		words[line[0]] = uint32(sum)
		moved := (uint64(words[line[2]]) ^ sum) << line[3]
		words[line[2]] = uint32(moved%(1<<32) + moved>>32)
	}
	return words
}

func modelSquare(key [32]byte, last []byte) [16]uint32 {
	all := "expand 32-byte k" + string(key[:]) + string(last)
	var s [16]uint32
	for i := range s {
		s[i] = binary.LittleEndian.Uint32([]byte(all[4*i:]))
	}
	return s
}

func modelRounds(s [16]uint32) [16]uint32 {
	for i := range 80 {
		p := modelPlaces[i%8]
		q := modelQuarter([4]uint32{s[p[0]], s[p[1]], s[p[2]], s[p[3]]})
		for j := range 4 {
			s[p[j]] = q[j]
		}
	}
	return s
}

func modelBlock(key [32]byte, counter uint32, nonce [12]byte) []byte {
	s := modelSquare(key, append(binary.LittleEndian.AppendUint32(nil, counter), nonce[:]...))
	var out []byte
	for i, w := range modelRounds(s) {
		out = binary.LittleEndian.AppendUint32(out, w+s[i])
	}
	return out
}

func modelStream(key [32]byte, counter uint32, nonce [12]byte, text string) []byte {
	var blocks []byte
	for len(blocks) < len(text) {
		blocks = append(blocks, modelBlock(key, counter, nonce)...)
		counter++
	}
	out := make([]byte, len(text))
	for i := range out {
		out[i] = text[i] ^ blocks[i]
	}
	return out
}

func modelDerive(key [32]byte, in [16]byte) []byte {
	var out []byte
	for i, w := range modelRounds(modelSquare(key, in[:])) {
		if i < 4 || i >= 12 {
			out = binary.LittleEndian.AppendUint32(out, w)
		}
	}
	return out
}

// counters are those of the beginning, around 2^31 and at the end, behind which 0 comes.
var counters = []uint32{0, 1, 2, 255, 256, 1<<31 - 1, 1 << 31, 1<<32 - 3, 1<<32 - 2, 1<<32 - 1}

func TestExamples(t *testing.T) {
	a, b, c, d := Quarter(0x11111111, 0x01020304, 0x9b8d6f43, 0x01234567)
	if a != 0xea2a92f4 || b != 0xcb1cf8ce || c != 0x4581472e || d != 0x5881c4bb {
		t.Errorf("Quarter: %08x %08x %08x %08x", a, b, c, d)
	}
	block := Block(countedKey(), 1, [12]byte(unhex(t, "000000090000004a00000000")))
	checkBytes(t, "Block", block[:16], unhex(t, "10f1e7e4d13b5915500fdd1fa32071c4"))
	derived := Derive(countedKey(), [16]byte(unhex(t, "000000090000004a0000000031415927")))
	checkBytes(t, "Derive", derived[:], unhex(t, "82413b4227b27bfed30e42508a877d73a0f9e4d58a74a853c12ec41326d3ecdc"))
}

// P3.1

func TestQuarter(t *testing.T) {
	source := rand.New(rand.NewPCG(1, 3))
	edges := []uint32{0, 1, 1 << 31, 1<<31 - 1, 1<<32 - 1}
	var cases [][4]uint32
	for i := range 625 {
		cases = append(cases, [4]uint32{edges[i%5], edges[i/5%5], edges[i/25%5], edges[i/125]})
	}
	for range 2000 {
		cases = append(cases, [4]uint32{source.Uint32(), source.Uint32(), source.Uint32(), source.Uint32()})
	}
	for _, in := range cases {
		a, b, c, d := Quarter(in[0], in[1], in[2], in[3])
		if got, want := [4]uint32{a, b, c, d}, modelQuarter(in); got != want {
			t.Fatalf("Quarter of %08x: %08x, want %08x", in, got, want)
		}
	}
}

// P3.2

func TestBlockVectors(t *testing.T) {
	for _, v := range []struct {
		key     [32]byte
		counter uint32
		nonce   [12]byte
		want    string
	}{
		{[32]byte{}, 0, [12]byte{}, "76b8e0ada0f13d90405d6ae55386bd28bdd219b8a08ded1aa836efcc8b770dc7da41597c5157488d7724e03fb8d84a376a43b8f41518a11cc387b669b2ee6586"},
		{[32]byte{}, 1, [12]byte{}, "9f07e7be5551387a98ba977c732d080dcb0f29a048e3656912c6533e32ee7aed29b721769ce64e43d57133b074d839d531ed1f28510afb45ace10a1f4b794d6f"},
		{[32]byte{31: 1}, 1, [12]byte{}, "3aeb5224ecf849929b9d828db1ced4dd832025e8018b8160b82284f3c949aa5a8eca00bbb4a73bdad192b5c42f73f2fd4e273644c8b36125a64addeb006c13a0"},
		{[32]byte{1: 0xFF}, 2, [12]byte{}, "72d54dfbf12ec44b362692df94137f328fea8da73990265ec1bbbea1ae9af0ca13b25aa26cb4a648cb9b9d1be65b2c0924a66c54d545ec1b7374f4872e99f096"},
		{[32]byte{}, 0, [12]byte{11: 2}, "c2c64d378cd536374ae204b9ef933fcd1a8b2288b3dfa49672ab765b54ee27c78a970e0e955c14f3a88e741b97c286f75f8fc299e8148362fa198a39531bed6d"},
		{countedKey(), 1, [12]byte{3: 9, 7: 0x4a}, "10f1e7e4d13b5915500fdd1fa32071c4c7d1f4c733c068030422aa9ac3d46c4ed2826446079faa0914c2d705d98b02a2b5129cd1de164eb9cbd083e8a2503c4e"},
	} {
		got := Block(v.key, v.counter, v.nonce)
		checkBytes(t, "Block", got[:], unhex(t, v.want))
	}
}

func TestBlock(t *testing.T) {
	source := rand.New(rand.NewPCG(2, 3))
	for _, counter := range counters {
		for range 50 {
			key, nonce := [32]byte(drawnBytes(source, 32)), [12]byte(drawnBytes(source, 12))
			got := Block(key, counter, nonce)
			checkBytes(t, "Block", got[:], modelBlock(key, counter, nonce))
		}
	}
}

// Each bit that is handed in stands at its own place of the square.
func TestBlockBits(t *testing.T) {
	for i := range 256 {
		var key [32]byte
		key[i/8] = 1 << (i % 8)
		got := Block(key, 0, [12]byte{})
		checkBytes(t, "Block of a key", got[:], modelBlock(key, 0, [12]byte{}))
	}
	for i := range 96 {
		var nonce [12]byte
		nonce[i/8] = 1 << (i % 8)
		got := Block([32]byte{}, 0, nonce)
		checkBytes(t, "Block of a nonce", got[:], modelBlock([32]byte{}, 0, nonce))
	}
	for i := range 32 {
		got := Block([32]byte{}, 1<<i, [12]byte{})
		checkBytes(t, "Block of a counter", got[:], modelBlock([32]byte{}, 1<<i, [12]byte{}))
	}
}

// P3.3

func TestStreamVectors(t *testing.T) {
	text := "Ladies and Gentlemen of the class of '99: If I could offer you only one tip for the future, sunscreen would be it."
	want := "6e2e359a2568f98041ba0728dd0d6981e97e7aec1d4360c20a27afccfd9fae0bf91b65c5524733ab8f593dabcd62b3571639d624e65152ab8f530c359f0861d807ca0dbf500d6a6156a38e088a22b65e52bc514d16ccf806818ce91ab77937365af90bbf74a35be6b40b8eedf2785e42874d"
	checkBytes(t, "Stream", []byte(Stream(countedKey(), 1, [12]byte{7: 0x4a}, text)), unhex(t, want))
	long := sha256.Sum256([]byte(Stream(countedKey(), 0, [12]byte{}, string(make([]byte, 100000)))))
	checkBytes(t, "Stream of 100000 zeros", long[:], unhex(t, "523b53f6e945aa8f547c1603d66cb76421bb30485e057e8886bbfde7bf703227"))
}

// Every length to beyond four blocks, from counters on that pass 2^32 too.
func TestStream(t *testing.T) {
	source := rand.New(rand.NewPCG(3, 3))
	for n := range 4*blockSize + 3 {
		key, nonce := [32]byte(drawnBytes(source, 32)), [12]byte(drawnBytes(source, 12))
		text := string(drawnBytes(source, n))
		for _, counter := range counters {
			got := Stream(key, counter, nonce, text)
			checkBytes(t, "Stream", []byte(got), modelStream(key, counter, nonce, text))
			if Stream(key, counter, nonce, got) != text {
				t.Errorf("Stream of Stream of %d bytes from %d on is not the text", n, counter)
			}
		}
	}
}

func TestStreamOfNothing(t *testing.T) {
	for _, counter := range counters {
		if got := Stream(countedKey(), counter, [12]byte{1}, ""); got != "" {
			t.Errorf("Stream of no text: %x", got)
		}
	}
}

// Texts need be no right UTF-8.
func TestStreamOfAnyBytes(t *testing.T) {
	text := strings.Repeat("\xff\xfe\x80\xc0", 40)
	got := Stream(countedKey(), 7, [12]byte{2}, text)
	checkBytes(t, "Stream", []byte(got), modelStream(countedKey(), 7, [12]byte{2}, text))
}

// P3.4

func TestDeriveVectors(t *testing.T) {
	got := Derive([32]byte{}, [16]byte{})
	checkBytes(t, "Derive of zeros", got[:], unhex(t, "1140704c328d1d5d0e30086cdf209dbd6a43b8f41518a11cc387b669b2ee6586"))
}

func TestDerive(t *testing.T) {
	source := rand.New(rand.NewPCG(4, 3))
	for range 500 {
		key, in := [32]byte(drawnBytes(source, 32)), [16]byte(drawnBytes(source, 16))
		got := Derive(key, in)
		checkBytes(t, "Derive", got[:], modelDerive(key, in))
	}
	for i := range 128 {
		var in [16]byte
		in[i/8] = 1 << (i % 8)
		got := Derive(countedKey(), in)
		checkBytes(t, "Derive", got[:], modelDerive(countedKey(), in))
	}
}

// A block is what Derive tells and what the square was, in the words that both tell.
func TestDeriveBesideBlock(t *testing.T) {
	key, nonce := countedKey(), [12]byte{5, 6, 7}
	block, derived := Block(key, 0x04030201, nonce), Derive(key, [16]byte{1, 2, 3, 4, 5, 6, 7})
	first := modelSquare(key, []byte{1, 2, 3, 4, 5, 6, 7, 0, 0, 0, 0, 0, 0, 0, 0, 0})
	for i := range 8 {
		place := i + i/4*8
		word := binary.LittleEndian.Uint32(derived[4*i:]) + first[place]
		if got := binary.LittleEndian.Uint32(block[4*place:]); got != word {
			t.Errorf("word %d: %08x, want %08x", place, got, word)
		}
	}
}

// P3.5

func TestStreamOfZeros(t *testing.T) {
	nonce := [12]byte{3, 1, 4}
	for _, counter := range counters {
		var want []byte
		for i := range 5 {
			block := Block(countedKey(), counter+uint32(i), nonce)
			want = append(want, block[:]...)
		}
		for n := range len(want) + 1 {
			got := Stream(countedKey(), counter, nonce, string(make([]byte, n)))
			checkBytes(t, "Stream of zeros", []byte(got), want[:n])
		}
	}
}

func TestStreamInPieces(t *testing.T) {
	source := rand.New(rand.NewPCG(5, 3))
	nonce := [12]byte(drawnBytes(source, 12))
	for _, n := range []int{0, 1, 63, 64, 65, 127, 128, 300, 1400} {
		text := string(drawnBytes(source, n))
		for _, counter := range counters {
			whole := Stream(countedKey(), counter, nonce, text)
			for blocks := range n/blockSize + 1 {
				cut := blocks * blockSize
				first := Stream(countedKey(), counter, nonce, text[:cut])
				rest := Stream(countedKey(), counter+uint32(blocks), nonce, text[cut:])
				checkBytes(t, "Stream in two pieces", []byte(first+rest), []byte(whole))
			}
		}
	}
}

func TestSameAgain(t *testing.T) {
	text := strings.Repeat("again ", 50)
	once := Stream(countedKey(), 9, [12]byte{}, text)
	Block([32]byte{8}, 3, [12]byte{1})
	Derive([32]byte{9}, [16]byte{2})
	if Stream(countedKey(), 9, [12]byte{}, text) != once {
		t.Error("the same call has another answer")
	}
}
