package aead

import (
	"encoding/binary"
	"encoding/hex"
	"math/rand/v2"
	"strings"
	"testing"

	"adit/api"
	"adit/chacha"
	"adit/poly"
)

// The tests hold the package against a plain model, which lays the chapter's words out in one list of bytes, and against vectors that others published.

const sunscreen = "Ladies and Gentlemen of the class of '99: If I could offer you only one tip for the future, sunscreen would be it."

func unhex(t *testing.T, digits string) string {
	t.Helper()
	b, err := hex.DecodeString(strings.Join(strings.Fields(digits), ""))
	if err != nil {
		t.Fatalf("no bytes: %s", digits)
	}
	return string(b)
}

func drawnBytes(source *rand.Rand, n int) []byte {
	b := make([]byte, n)
	for i := range b {
		b[i] = byte(source.Uint32())
	}
	return b
}

func drawnText(source *rand.Rand, n int) string { return string(drawnBytes(source, n)) }

func drawnKey(source *rand.Rand) [32]byte { return [32]byte(drawnBytes(source, 32)) }

func drawnNonce(source *rand.Rand) [12]byte { return [12]byte(drawnBytes(source, 12)) }

func drawnWide(source *rand.Rand) [24]byte { return [24]byte(drawnBytes(source, 24)) }

// countingKey is 80 81 .. 9f.
func countingKey() (key [32]byte) {
	for i := range key {
		key[i] = byte(0x80 + i)
	}
	return key
}

// lengths are those around the sizes of the mark's blocks and of the stream's.
func lengths() []int {
	return []int{0, 1, 7, 15, 16, 17, 31, 32, 33, 47, 48, 63, 64, 65, 79, 80, 127, 128, 129, 255, 256, 257, 300}
}

func turned(text string, i int, by byte) string {
	b := []byte(text)
	b[i] ^= by
	return string(b)
}

func checkText(t *testing.T, what, got, want string) {
	t.Helper()
	if got != want {
		t.Errorf("%s: %x, want %x", what, got, want)
	}
}

func wantOpens(t *testing.T, what string, got string, errno api.Errno, want string) {
	t.Helper()
	if got != want || errno != api.OK {
		t.Errorf("%s: %x and error %d, want %x and none", what, got, errno, want)
	}
}

func wantNoText(t *testing.T, what string, got string, errno api.Errno) {
	t.Helper()
	if got != "" || errno != api.ErrOpen {
		t.Errorf("%s: %x and error %d, want nothing and error %d", what, got, errno, api.ErrOpen)
	}
}

// The model.

func filledUp(b []byte) []byte {
	for len(b)%16 != 0 {
		b = append(b, 0)
	}
	return b
}

func modelMark(key [32]byte, nonce [12]byte, under, beside string) string {
	marked := filledUp([]byte(beside))
	marked = filledUp(append(marked, under...))
	marked = binary.LittleEndian.AppendUint64(marked, uint64(len(beside)))
	marked = binary.LittleEndian.AppendUint64(marked, uint64(len(under)))
	first := chacha.Block(key, 0, nonce)
	mark := poly.Tag([32]byte(first[0:32]), string(marked))
	return string(mark[:])
}

func modelBox(key [32]byte, nonce [12]byte, text, beside string) string {
	under := chacha.Stream(key, 1, nonce, text)
	return under + modelMark(key, nonce, under, beside)
}

func modelWide(key [32]byte, nonce [24]byte, text, beside string) string {
	derived := chacha.Derive(key, [16]byte(nonce[0:16]))
	short := [12]byte{4: nonce[16], nonce[17], nonce[18], nonce[19], nonce[20], nonce[21], nonce[22], nonce[23]}
	return modelBox(derived, short, text, beside)
}

// The chapter's examples, and other vectors.

type vector struct{ key, nonce, text, beside, box string }

func narrowVectors(t *testing.T) []vector {
	return []vector{{ // the chapter's; RFC 8439, section 2.8.2
		key:    unhex(t, "808182838485868788898a8b8c8d8e8f909192939495969798999a9b9c9d9e9f"),
		nonce:  unhex(t, "07000000 4041424344454647"),
		text:   sunscreen,
		beside: unhex(t, "50515253c0c1c2c3c4c5c6c7"),
		box: unhex(t, `d31a8d34648e60db7b86afbc53ef7ec2a4aded51296e08fea9e2b5a736ee62d6
			3dbea45e8ca9671282fafb69da92728b1a71de0a9e060b2905d6a5b67ecd3b36
			92ddbd7f2d778b8c9803aee328091b58fab324e4fad675945585808b4831d7bc
			3ff4def08e4b7a9de576d26586cec64b6116 1ae10b594f09e26a7e902ecbd0600691`),
	}, { // RFC 8439, appendix A.5
		key:   unhex(t, "1c9240a5eb55d38af333888604f6b5f0473917c1402b80099dca5cbc207075c0"),
		nonce: unhex(t, "00000000 0102030405060708"),
		text: "Internet-Drafts are draft documents valid for a maximum of six months and may be updated, replaced, or obsoleted by other documents at any time. " +
			"It is inappropriate to use Internet-Drafts as reference material or to cite them other than as /\u201cwork in progress./\u201d",
		beside: unhex(t, "f33388860000000000004e91"),
		box: unhex(t, `64a0861575861af460f062c79be643bd5e805cfd345cf389f108670ac76c8cb2
			4c6cfc18755d43eea09ee94e382d26b0bdb7b73c321b0100d4f03b7f355894cf
			332f830e710b97ce98c8a84abd0b948114ad176e008d33bd60f982b1ff37c855
			9797a06ef4f0ef61c186324e2b3506383606907b6a7c02b0f9f6157b53c867e4
			b9166c767b804d46a59b5216cde7a4e99040c5a40433225ee282a1b0a06c523e
			af4534d7f83fa1155b0047718cbc546a0d072b04b3564eea1b422273f548271a
			0bb2316053fa76991955ebd63159434ecebb4e466dae5a1073a6727627097a10
			49e617d91d361094fa68f0ff77987130305beaba2eda04df997b714d6c6f2c29
			a6ad5cb4022b02709b eead9d67890cbb22392336fea1851f38`),
	}}
}

func TestVectors(t *testing.T) {
	for _, v := range narrowVectors(t) {
		key, nonce := [32]byte([]byte(v.key)), [12]byte([]byte(v.nonce))
		checkText(t, "Seal", Seal(key, nonce, v.text, v.beside), v.box)
		text, errno := Open(key, nonce, v.box, v.beside)
		wantOpens(t, "Open", text, errno, v.text)
	}
}

// The vector of draft-irtf-cfrg-xchacha-03, appendix A.3.1.
func TestWideVector(t *testing.T) {
	key, nonce := countingKey(), [24]byte([]byte(unhex(t, "404142434445464748494a4b4c4d4e4f5051525354555657")))
	beside := unhex(t, "50515253c0c1c2c3c4c5c6c7")
	box := unhex(t, `bd6d179d3e83d43b9576579493c0e939572a1700252bfaccbed2902c21396cbb
		731c7f1b0b4aa6440bf3a82f4eda7e39ae64c6708c54c216cb96b72e1213b452
		2f8c9ba40db5d945b11b69b982c1bb9e3f3fac2bc369488f76b2383565d3fff9
		21f9664c97637da9768812f615c68b13b52e c0875924c1c7987947deafd8780acf49`)
	checkText(t, "SealWide", SealWide(key, nonce, sunscreen, beside), box)
	text, errno := OpenWide(key, nonce, box, beside)
	wantOpens(t, "OpenWide", text, errno, sunscreen)
}

// P5.1

func TestSealIsTheBox(t *testing.T) {
	source := rand.New(rand.NewPCG(5, 1))
	for _, n := range lengths() {
		for _, m := range lengths() {
			key, nonce := drawnKey(source), drawnNonce(source)
			text, beside := drawnText(source, n), drawnText(source, m)
			got := Seal(key, nonce, text, beside)
			checkText(t, "Seal", got, modelBox(key, nonce, text, beside))
			if len(got) != n+16 {
				t.Errorf("Seal of %d bytes has %d, want 16 more", n, len(got))
			}
		}
	}
}

func TestSealWideIsTheWideBox(t *testing.T) {
	source := rand.New(rand.NewPCG(5, 2))
	for _, n := range lengths() {
		key, nonce := drawnKey(source), drawnWide(source)
		text, beside := drawnText(source, n), drawnText(source, 300-n)
		checkText(t, "SealWide", SealWide(key, nonce, text, beside), modelWide(key, nonce, text, beside))
	}
}

// A text of zeros is the stream itself: from block 1 on, as block 0 is the mark's key.
func TestTextStartsAtBlockOne(t *testing.T) {
	source := rand.New(rand.NewPCG(5, 3))
	key, nonce := drawnKey(source), drawnNonce(source)
	first, second := chacha.Block(key, 1, nonce), chacha.Block(key, 2, nonce)
	got := Seal(key, nonce, strings.Repeat("\x00", 128), "beside")
	checkText(t, "Seal of zeros", got[:128], string(first[:])+string(second[:]))
}

func TestLongTexts(t *testing.T) {
	source := rand.New(rand.NewPCG(5, 4))
	key, nonce := drawnKey(source), drawnNonce(source)
	for _, n := range []int{1420, 9000, 65535, 70001} {
		text, beside := drawnText(source, n), drawnText(source, 70001-n)
		box := Seal(key, nonce, text, beside)
		if box != modelBox(key, nonce, text, beside) {
			t.Errorf("Seal of %d bytes is another box", n)
		}
		if got, errno := Open(key, nonce, box, beside); got != text || errno != api.OK {
			t.Errorf("Open of %d bytes: another text, or error %d", n, errno)
		}
	}
}

// Zeros that fill up are no bytes of a part, and a byte that moves from one part to the other is another mark.
func TestPartsAreKeptApart(t *testing.T) {
	source := rand.New(rand.NewPCG(5, 5))
	key, nonce := drawnKey(source), drawnNonce(source)
	for n := range 17 {
		text := strings.Repeat("\x00", n)
		under := chacha.Stream(key, 1, nonce, text)
		seen := map[string]int{}
		for m := range 34 {
			mark := Seal(key, nonce, text, strings.Repeat("\x00", m))[n:]
			if before, ok := seen[mark]; ok {
				t.Errorf("with %d and with %d zeros beside %x the mark is the same", before, m, under)
			}
			seen[mark] = m
		}
	}
}

// P5.2

func TestOpenTellsTheText(t *testing.T) {
	source := rand.New(rand.NewPCG(5, 6))
	for _, n := range lengths() {
		key, nonce, wide := drawnKey(source), drawnNonce(source), drawnWide(source)
		text, beside := drawnText(source, n), drawnText(source, n/3)
		got, errno := Open(key, nonce, modelBox(key, nonce, text, beside), beside)
		wantOpens(t, "Open", got, errno, text)
		got, errno = OpenWide(key, wide, modelWide(key, wide, text, beside), beside)
		wantOpens(t, "OpenWide", got, errno, text)
	}
}

func TestAnotherKeyNonceOrBesideOpensNothing(t *testing.T) {
	source := rand.New(rand.NewPCG(5, 7))
	key, nonce := drawnKey(source), drawnNonce(source)
	text, beside := "a text that is sealed", "what is beside it"
	box := Seal(key, nonce, text, beside)
	for i := range key {
		other := key
		other[i] ^= 1 << (i % 8)
		got, errno := Open(other, nonce, box, beside)
		wantNoText(t, "another key", got, errno)
	}
	for i := range nonce {
		other := nonce
		other[i] ^= 1 << (i % 8)
		got, errno := Open(key, other, box, beside)
		wantNoText(t, "another nonce", got, errno)
	}
	for i := range beside {
		got, errno := Open(key, nonce, box, turned(beside, i, 1))
		wantNoText(t, "another beside", got, errno)
	}
	for _, other := range []string{"", beside + "\x00", "\x00" + beside, beside[1:], beside[:len(beside)-1]} {
		got, errno := Open(key, nonce, box, other)
		wantNoText(t, "beside of another length", got, errno)
	}
}

func TestAnotherWideKeyNonceOrBesideOpensNothing(t *testing.T) {
	source := rand.New(rand.NewPCG(5, 8))
	key, nonce := drawnKey(source), drawnWide(source)
	box := SealWide(key, nonce, "a text", "beside")
	for i := range key {
		other := key
		other[i] ^= 0x80
		got, errno := OpenWide(other, nonce, box, "beside")
		wantNoText(t, "another key", got, errno)
	}
	for i := range nonce {
		other := nonce
		other[i] ^= 0x80
		got, errno := OpenWide(key, other, box, "beside")
		wantNoText(t, "another nonce", got, errno)
	}
	for _, other := range []string{"", "besid", "beside\x00", "Beside"} {
		got, errno := OpenWide(key, nonce, box, other)
		wantNoText(t, "another beside", got, errno)
	}
}

// A box is no wide box, and a wide one no box, though the last bytes of the nonce are the same.
func TestBoxesAndWideBoxesDiffer(t *testing.T) {
	source := rand.New(rand.NewPCG(5, 9))
	key, wide := drawnKey(source), drawnWide(source)
	var nonce [12]byte
	copy(nonce[4:], wide[16:])
	got, errno := OpenWide(key, wide, Seal(key, nonce, "text", ""), "")
	wantNoText(t, "OpenWide of a box", got, errno)
	got, errno = Open(key, nonce, SealWide(key, wide, "text", ""), "")
	wantNoText(t, "Open of a wide box", got, errno)
}

// P5.3

func TestNonce(t *testing.T) {
	for _, c := range []struct {
		counter uint64
		want    string
	}{
		{0, "000000000000000000000000"},
		{1, "000000000100000000000000"},
		{258, "000000000201000000000000"},
		{1 << 32, "000000000000000001000000"},
		{0x0102030405060708, "000000000807060504030201"},
		{1 << 63, "000000000000000000000080"},
		{api.LastCounter, "00000000ffdfffffffffffff"},
		{1<<64 - 1, "00000000ffffffffffffffff"},
	} {
		nonce := Nonce(c.counter)
		checkText(t, "Nonce", string(nonce[:]), unhex(t, c.want))
	}
}

func TestNonceOfEachBit(t *testing.T) {
	for bit := range 64 {
		var want [12]byte
		want[4+bit/8] = 1 << (bit % 8)
		if got := Nonce(1 << bit); got != want {
			t.Errorf("Nonce(1<<%d): %x, want %x", bit, got, want)
		}
	}
}

// P5.4

func TestSame(t *testing.T) {
	for _, c := range []struct {
		a, b string
		want bool
	}{
		{"", "", true},
		{"", "\x00", false},
		{"\x00", "", false},
		{"a", "a", true},
		{"a", "b", false},
		{"ab", "a", false},
		{"a", "ab", false},
		{"a\x00", "a", false},
		{"ab", "ba", false},
		{"aa", "bb", false},
		{"\xff\x00", "\x00\xff", false},
		{"\x80", "\x00", false},
		{"\xff\xfe", "\xff\xfe", true},
	} {
		if got := Same(c.a, c.b); got != c.want {
			t.Errorf("Same(%q, %q): %v, want %v", c.a, c.b, got, c.want)
		}
	}
}

func TestSameSeesEachBit(t *testing.T) {
	source := rand.New(rand.NewPCG(5, 10))
	for _, n := range lengths() {
		a := drawnText(source, n)
		if !Same(a, string([]byte(a))) {
			t.Errorf("%x is not the same as itself", a)
		}
		for bit := range 8 * n {
			if other := turned(a, bit/8, 1<<(bit%8)); Same(a, other) || Same(other, a) {
				t.Errorf("%x is the same as %x", a, other)
			}
		}
		// The same bit twice is still a difference.
		if n >= 2 && Same(a, turned(turned(a, 0, 4), n-1, 4)) {
			t.Errorf("two differences in %x are none", a)
		}
	}
}

// P5.5

func TestWhatWasSealedOpens(t *testing.T) {
	source := rand.New(rand.NewPCG(5, 11))
	for range 300 {
		key, nonce, wide := drawnKey(source), drawnNonce(source), drawnWide(source)
		text, beside := drawnText(source, source.IntN(200)), drawnText(source, source.IntN(100))
		got, errno := Open(key, nonce, Seal(key, nonce, text, beside), beside)
		wantOpens(t, "Open of Seal", got, errno, text)
		got, errno = OpenWide(key, wide, SealWide(key, wide, text, beside), beside)
		wantOpens(t, "OpenWide of SealWide", got, errno, text)
	}
}

func TestAnotherMarkOpensNothing(t *testing.T) {
	source := rand.New(rand.NewPCG(5, 12))
	key, nonce, wide := drawnKey(source), drawnNonce(source), drawnWide(source)
	for _, n := range []int{0, 1, 16, 33} {
		text := drawnText(source, n)
		box, wideBox := Seal(key, nonce, text, "b"), SealWide(key, wide, text, "b")
		for bit := range 128 {
			got, errno := Open(key, nonce, turned(box, n+bit/8, 1<<(bit%8)), "b")
			wantNoText(t, "a turned mark", got, errno)
			got, errno = OpenWide(key, wide, turned(wideBox, n+bit/8, 1<<(bit%8)), "b")
			wantNoText(t, "a turned wide mark", got, errno)
		}
		got, errno := Open(key, nonce, box[:n]+drawnText(source, 16), "b")
		wantNoText(t, "a drawn mark", got, errno)
		got, errno = Open(key, nonce, box[:n]+strings.Repeat("\x00", 16), "b")
		wantNoText(t, "a mark of zeros", got, errno)
	}
}

func TestTurnedTextsOpenNothing(t *testing.T) {
	source := rand.New(rand.NewPCG(5, 13))
	key, nonce := drawnKey(source), drawnNonce(source)
	box := Seal(key, nonce, drawnText(source, 100), "beside")
	for i := range 100 {
		got, errno := Open(key, nonce, turned(box, i, 1<<(i%8)), "beside")
		wantNoText(t, "a turned text", got, errno)
	}
	for _, other := range []string{box[1:], box[:len(box)-1], box + "\x00", "\x00" + box, box[:84] + box[100:]} {
		got, errno := Open(key, nonce, other, "beside")
		wantNoText(t, "a box of another length", got, errno)
	}
}

func TestShortBoxesOpenNothing(t *testing.T) {
	source := rand.New(rand.NewPCG(5, 14))
	key, nonce, wide := drawnKey(source), drawnNonce(source), drawnWide(source)
	empty, emptyWide := Seal(key, nonce, "", ""), SealWide(key, wide, "", "")
	for n := range 16 {
		for _, box := range []string{empty[:n], empty[16-n:], emptyWide[:n], strings.Repeat("\x00", n)} {
			got, errno := Open(key, nonce, box, "")
			wantNoText(t, "Open of a short box", got, errno)
			got, errno = OpenWide(key, wide, box, "")
			wantNoText(t, "OpenWide of a short box", got, errno)
		}
	}
	got, errno := Open(key, nonce, empty, "")
	wantOpens(t, "Open of 16 bytes", got, errno, "")
	got, errno = OpenWide(key, wide, emptyWide, "")
	wantOpens(t, "OpenWide of 16 bytes", got, errno, "")
}

// Bytes that nobody sealed open too, if the right mark stands behind them: and are the box of what comes out.
func TestWhatOpensIsTheBoxOfItsText(t *testing.T) {
	source := rand.New(rand.NewPCG(5, 15))
	for _, n := range lengths() {
		key, nonce := drawnKey(source), drawnNonce(source)
		under, beside := drawnText(source, n), drawnText(source, 20)
		box := under + modelMark(key, nonce, under, beside)
		text, errno := Open(key, nonce, box, beside)
		if errno != api.OK {
			t.Errorf("%d bytes with their mark: error %d", n, errno)
		}
		checkText(t, "Seal of what opened", Seal(key, nonce, text, beside), box)
	}
}

func FuzzOpen(f *testing.F) {
	f.Add("short", "")
	f.Add(strings.Repeat("\x00", 16), "beside")
	f.Fuzz(func(t *testing.T, box, beside string) {
		key, nonce := countingKey(), Nonce(7)
		text, errno := Open(key, nonce, box, beside)
		if errno == api.OK && Seal(key, nonce, text, beside) != box {
			t.Errorf("%x opens, and is not the box of %x", box, text)
		}
		if errno != api.OK && (text != "" || errno != api.ErrOpen) {
			t.Errorf("%x: %x and error %d", box, text, errno)
		}
	})
}
