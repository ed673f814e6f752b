package noise

import (
	"crypto/ecdh"
	"encoding/binary"
	"encoding/hex"
	"fmt"
	"math/rand/v2"
	"strings"
	"testing"

	"adit/aead"
	"adit/api"
	"adit/blake"
	"adit/curve"
)

// The tests hold the package against a plain model, which goes by the library's X25519 and the layers below, and against bytes that a program of another language made without any of them.

func unhex(t *testing.T, digits string) string {
	t.Helper()
	b, err := hex.DecodeString(digits)
	if err != nil {
		t.Fatalf("no bytes: %s", digits)
	}
	return string(b)
}

func drawnText(source *rand.Rand, n int) string {
	b := make([]byte, n)
	for i := range b {
		b[i] = byte(source.Uint32())
	}
	return string(b)
}

func drawnKey(source *rand.Rand) [32]byte { return [32]byte([]byte(drawnText(source, 32))) }

// countedFrom are 32 bytes, each one more than the one ahead.
func countedFrom(first byte) (key [32]byte) {
	for i := range key {
		key[i] = first + byte(i)
	}
	return key
}

func turned(text string, i int, by byte) string {
	b := []byte(text)
	b[i] ^= by
	return string(b)
}

func turnedKey(key [32]byte) [32]byte {
	key[13] ^= 0x20
	return key
}

// put is a text in which another one stands at a place.
func put(text string, place int, piece string) string {
	return text[:place] + piece + text[place+len(piece):]
}

// otherKinds are beginnings of messages that are not of a kind.
func otherKinds(kind byte) []string {
	right := string([]byte{kind, 0, 0, 0})
	l := []string{string([]byte{0, 0, 0, kind})}
	for other := range byte(6) {
		if other != kind {
			l = append(l, string([]byte{other, 0, 0, 0}))
		}
	}
	for i := range 4 {
		l = append(l, turned(right, i, 0x80), turned(right, i, 1))
	}
	return l
}

func little(n uint32) string { return string(binary.LittleEndian.AppendUint32(nil, n)) }

// smallKeys lead to a secret that is zero, whatever the private key is.
func smallKeys(t *testing.T) [][32]byte {
	t.Helper()
	var l [][32]byte
	for _, digits := range []string{
		strings.Repeat("00", 32),
		"01" + strings.Repeat("00", 31),
		"e0eb7a7c3b41b8ae1656e3faf19fc46ada098deb9c32b1fd866205165f49b800",
		"5f9c95bca3508c24b1d0b1559c83ef5b04445cc4581c8e86d8224eddd09f1157",
		"ec" + strings.Repeat("ff", 30) + "7f",
		"ed" + strings.Repeat("ff", 30) + "7f",
		"ee" + strings.Repeat("ff", 30) + "7f",
		strings.Repeat("00", 31) + "80",
	} {
		l = append(l, [32]byte([]byte(unhex(t, digits))))
	}
	return l
}

func wantErrno(t *testing.T, what string, got, want api.Errno) {
	t.Helper()
	if got != want {
		t.Errorf("%s: error %d, want %d", what, got, want)
	}
}

func checkText(t *testing.T, what, got, want string) {
	t.Helper()
	if got != want {
		t.Errorf("%s: %x, want %x", what, got, want)
	}
}

func checkHand(t *testing.T, what string, got, want api.Hand) {
	t.Helper()
	if got != want {
		t.Errorf("%s: hand %x, want %x", what, got, want)
	}
}

func checkPair(t *testing.T, what string, got, want api.Pair) {
	t.Helper()
	if got != want {
		t.Errorf("%s: keypair %x, want %x", what, got, want)
	}
}

// The model: texts in place of keys, and no state but two of them.

type model struct{ h, c string }

func modelSum(pieces ...string) string {
	sum := blake.Sum(strings.Join(pieces, ""))
	return string(sum[:])
}

func modelKeys(t *testing.T, n int, c, x string) []string {
	t.Helper()
	keys, errno := blake.Chain(n, [32]byte([]byte(c)), x)
	if errno != api.OK {
		t.Fatalf("no %d keys: error %d", n, errno)
	}
	var l []string
	for _, key := range keys {
		l = append(l, string(key[:]))
	}
	return l
}

func modelPublic(t *testing.T, private string) string {
	t.Helper()
	key, err := ecdh.X25519().NewPrivateKey([]byte(private))
	if err != nil {
		t.Fatal(err)
	}
	return string(key.PublicKey().Bytes())
}

// modelSecret is 32 bytes 0 where there is none.
func modelSecret(t *testing.T, private, key string) string {
	t.Helper()
	mine, err := ecdh.X25519().NewPrivateKey([]byte(private))
	if err != nil {
		t.Fatal(err)
	}
	other, err := ecdh.X25519().NewPublicKey([]byte(key))
	if err != nil {
		t.Fatal(err)
	}
	secret, err := mine.ECDH(other)
	if err != nil {
		return strings.Repeat("\x00", 32)
	}
	return string(secret)
}

func modelSeal(k, text, beside string) string {
	return aead.Seal([32]byte([]byte(k)), [12]byte{}, text, beside)
}

// modelInitiation seals any key for the sender's own, and takes any texts for the two secrets.
func modelInitiation(t *testing.T, to, e, key, secret1, secret2, stamp string, index uint32) (string, model) {
	t.Helper()
	c := modelSum("Noise_IKpsk2_25519_ChaChaPoly_BLAKE2s")
	h := modelSum(c, "adit 1")
	h = modelSum(h, to)
	c = modelKeys(t, 1, c, e)[0]
	h = modelSum(h, e)
	two := modelKeys(t, 2, c, secret1)
	box1 := modelSeal(two[1], key, h)
	h = modelSum(h, box1)
	two = modelKeys(t, 2, two[0], secret2)
	box2 := modelSeal(two[1], stamp, h)
	h = modelSum(h, box2)
	return "\x01\x00\x00\x00" + little(index) + e + box1 + box2, model{h, two[0]}
}

func modelBegin(t *testing.T, own, peer, ephemeral, stamp string, index uint32) (string, model) {
	t.Helper()
	return modelInitiation(t, peer, modelPublic(t, ephemeral), modelPublic(t, own),
		modelSecret(t, ephemeral, peer), modelSecret(t, own, peer), stamp, index)
}

// modelResponse takes any texts for the two secrets; it tells the two keys of the keypair too.
func modelResponse(t *testing.T, m model, e, secret1, secret2, shared string, index, far uint32) (string, []string) {
	t.Helper()
	c := modelKeys(t, 1, m.c, e)[0]
	h := modelSum(m.h, e)
	c = modelKeys(t, 1, c, secret1)[0]
	c = modelKeys(t, 1, c, secret2)[0]
	three := modelKeys(t, 3, c, shared)
	h = modelSum(h, three[1])
	box := modelSeal(three[2], "", h)
	return "\x02\x00\x00\x00" + little(index) + little(far) + e + box, modelKeys(t, 2, three[0], "")
}

// ends are two of them with what they go by; a begins, b answers.
type ends struct {
	a, b, x, y, shared [32]byte
	stamp              [12]byte
	local, far         uint32 // a's index, and b's
}

func drawnEnds(seed uint64) ends {
	source := rand.New(rand.NewPCG(7, seed))
	return ends{
		a: drawnKey(source), b: drawnKey(source), x: drawnKey(source), y: drawnKey(source), shared: drawnKey(source),
		stamp: [12]byte([]byte(drawnText(source, 12))), local: source.Uint32(), far: source.Uint32(),
	}
}

func countedEnds() ends {
	return ends{
		a: countedFrom(1), b: countedFrom(65), x: countedFrom(129), y: countedFrom(193), shared: countedFrom(33),
		stamp: Stamp(1234567), local: 0x04030201, far: 0xfffefdfc,
	}
}

// someEnds have the edges of what they go by among them.
func someEnds() []ends {
	l := []ends{countedEnds(), {b: [32]byte{8}, local: 0, far: 0}}
	same := drawnEnds(100)
	same.b, same.x, same.y = same.a, same.a, same.a
	full := drawnEnds(101)
	full.local, full.far = 1<<32-1, 1<<32-1
	l = append(l, same, full)
	for seed := range uint64(6) {
		l = append(l, drawnEnds(seed))
	}
	return l
}

// begun is what a makes, with marks that nobody looks at.
func (w ends) begun(t *testing.T) (string, api.Hand) {
	t.Helper()
	message, hand, errno := Begin(w.a, curve.Public(w.b), w.x, w.stamp, w.local)
	if errno != api.OK {
		t.Fatalf("Begin: error %d", errno)
	}
	return message + strings.Repeat("m", 32), hand
}

// answered is what b makes of it, and a's hand.
func (w ends) answered(t *testing.T) (string, api.Hand) {
	t.Helper()
	message, mine := w.begun(t)
	hand, _, errno := Accept(w.b, message)
	if errno != api.OK {
		t.Fatalf("Accept: error %d", errno)
	}
	message, _, errno = Answer(hand, w.shared, w.y, w.far)
	if errno != api.OK {
		t.Fatalf("Answer: error %d", errno)
	}
	return message + strings.Repeat("m", 32), mine
}

func wantNoBegin(t *testing.T, what string, w ends, peer [32]byte, want api.Errno) {
	t.Helper()
	message, hand, errno := Begin(w.a, peer, w.x, w.stamp, w.local)
	wantErrno(t, what, errno, want)
	checkText(t, what, message, "")
	checkHand(t, what, hand, api.Hand{})
}

func wantNoAccept(t *testing.T, what string, own [32]byte, message string, want api.Errno) {
	t.Helper()
	hand, stamp, errno := Accept(own, message)
	wantErrno(t, what, errno, want)
	checkHand(t, what, hand, api.Hand{})
	checkText(t, what, string(stamp[:]), strings.Repeat("\x00", 12))
}

func wantNoAnswer(t *testing.T, what string, h api.Hand, w ends, want api.Errno) {
	t.Helper()
	message, pair, errno := Answer(h, w.shared, w.y, w.far)
	wantErrno(t, what, errno, want)
	checkText(t, what, message, "")
	checkPair(t, what, pair, api.Pair{})
}

func wantNoFinish(t *testing.T, what string, own [32]byte, h api.Hand, shared [32]byte, message string, want api.Errno) {
	t.Helper()
	pair, errno := Finish(own, h, shared, message)
	wantErrno(t, what, errno, want)
	checkPair(t, what, pair, api.Pair{})
}

// The examples, and bytes that another program made.

func TestExamples(t *testing.T) {
	w := drawnEnds(50)
	to := curve.Public(w.b)
	message, _, errno := Begin(w.a, to, w.x, w.stamp, w.local)
	if len(message) != 116 || errno != api.OK {
		t.Errorf("Begin: %d bytes and error %d, want 116", len(message), errno)
	}
	marked, errno := Mark(message, to, "")
	if len(marked) != 148 || errno != api.OK {
		t.Errorf("Mark: %d bytes and error %d, want 148", len(marked), errno)
	}
	wantNoAccept(t, "147 bytes", w.b, marked[:147], api.ErrSize)
	wantNoAccept(t, "148 bytes that begin with 2", w.b, "\x02"+marked[1:], api.ErrType)
	wantNoBegin(t, "peer 0", w, [32]byte{}, api.ErrZero)
	stamp := Stamp(1500)
	checkText(t, "Stamp(1500)", string(stamp[:]), unhex(t, "400000000000000b1dcd6500"))
	if !Later(Stamp(2), Stamp(1)) || Later(Stamp(1), Stamp(1)) {
		t.Errorf("Later of 2 and 1, of 1 and 1: %t, %t, want true, false", Later(Stamp(2), Stamp(1)), Later(Stamp(1), Stamp(1)))
	}
}

const (
	otherInitiation = "0100000001020304883186b800b41d5cf0429695da9b3cc4f328ebcd184a6e482fa578c103f06c77" +
		"fa6ff1a71203eaf305dc6260f1911ba7d914db25d127ce39ef62f6c6467fb8a7a6e5bd3ac6ef50494b750b10ada8b907" +
		"2d2440df713352596e59212014f80150499b9abe7f22248802eb7769"
	otherHash     = "f52df4c30c9e6feabbd8f37b89a5aaa1f1fc92868d44e80daba92c60879b08ad"
	otherChain    = "aaec92d463425cc9b31a7cb684e62d3b8802fb2b287ce175d6a853478571713c"
	otherResponse = "02000000fcfdfeff010203043a553d74792d727efa9b9a4cde3da1ad93f1a2d0c09cb639b1a3c0fda14cbe24fcc11391b0a94499c4fea88866df779d"
	otherFirst    = "f447fc95eb65e4b166f11802f373608ca8ef74ef90a922fa7688f054151aa286"
	otherSecond   = "ddff56666c427386bb576d1702074e069931093553fd8d98ccd94d5d6a1a3ef6"
)

func TestHandshakeOfAnotherProgram(t *testing.T) {
	w := countedEnds()
	first, second := [32]byte([]byte(unhex(t, otherFirst))), [32]byte([]byte(unhex(t, otherSecond)))
	state := api.Hand{Hash: [32]byte([]byte(unhex(t, otherHash))), Chain: [32]byte([]byte(unhex(t, otherChain)))}

	message, mine, errno := Begin(w.a, curve.Public(w.b), w.x, w.stamp, w.local)
	wantErrno(t, "Begin", errno, api.OK)
	checkText(t, "initiation", message, unhex(t, otherInitiation))
	want := state
	want.Own, want.Peer, want.Local = w.x, curve.Public(w.b), w.local
	checkHand(t, "Begin", mine, want)

	theirs, stamp, errno := Accept(w.b, unhex(t, otherInitiation)+strings.Repeat("m", 32))
	wantErrno(t, "Accept", errno, api.OK)
	checkText(t, "stamp", string(stamp[:]), string(w.stamp[:]))
	want = state
	want.Remote, want.Peer, want.Far = curve.Public(w.x), curve.Public(w.a), w.local
	checkHand(t, "Accept", theirs, want)

	message, pair, errno := Answer(theirs, w.shared, w.y, w.far)
	wantErrno(t, "Answer", errno, api.OK)
	checkText(t, "response", message, unhex(t, otherResponse))
	checkPair(t, "Answer", pair, api.Pair{Send: second, Recv: first, Local: w.far, Far: w.local})

	pair, errno = Finish(w.a, mine, w.shared, unhex(t, otherResponse)+strings.Repeat("m", 32))
	wantErrno(t, "Finish", errno, api.OK)
	checkPair(t, "Finish", pair, api.Pair{Send: first, Recv: second, Local: w.local, Far: w.far})
}

// P7.1

func TestBegin(t *testing.T) {
	for i, w := range someEnds() {
		peer := curve.Public(w.b)
		want, m := modelBegin(t, string(w.a[:]), string(peer[:]), string(w.x[:]), string(w.stamp[:]), w.local)
		message, hand, errno := Begin(w.a, peer, w.x, w.stamp, w.local)
		what := fmt.Sprintf("Begin, ends %d", i)
		wantErrno(t, what, errno, api.OK)
		checkText(t, what, message, want)
		checkHand(t, what, hand, api.Hand{Hash: [32]byte([]byte(m.h)), Chain: [32]byte([]byte(m.c)), Own: w.x, Peer: peer, Local: w.local})
	}
}

func TestBeginWithoutASecret(t *testing.T) {
	w := drawnEnds(51)
	for _, peer := range smallKeys(t) {
		wantNoBegin(t, fmt.Sprintf("peer %x", peer), w, peer, api.ErrZero)
	}
}

// A peer's key is mixed in as it was handed over, though its highest bit is nothing to the curve.
func TestBeginTakesThePeerAsItIs(t *testing.T) {
	w := drawnEnds(52)
	peer := curve.Public(w.b)
	peer[31] |= 0x80
	message, hand, errno := Begin(w.a, peer, w.x, w.stamp, w.local)
	wantErrno(t, "peer with its highest bit", errno, api.OK)
	want, _ := modelBegin(t, string(w.a[:]), string(peer[:]), string(w.x[:]), string(w.stamp[:]), w.local)
	checkText(t, "peer with its highest bit", message, want)
	if hand.Peer != peer {
		t.Errorf("hand's peer %x, want %x", hand.Peer, peer)
	}
	wantNoAccept(t, "what was begun with another beginning", w.b, message+strings.Repeat("m", 32), api.ErrOpen)
}

// P7.2

func TestAccept(t *testing.T) {
	for i, w := range someEnds() {
		to := modelPublic(t, string(w.b[:]))
		message, m := modelBegin(t, string(w.a[:]), to, string(w.x[:]), string(w.stamp[:]), w.local)
		hand, stamp, errno := Accept(w.b, message+strings.Repeat("\x00", 32))
		what := fmt.Sprintf("Accept, ends %d", i)
		wantErrno(t, what, errno, api.OK)
		checkText(t, what+", stamp", string(stamp[:]), string(w.stamp[:]))
		checkHand(t, what, hand, api.Hand{
			Hash: [32]byte([]byte(m.h)), Chain: [32]byte([]byte(m.c)),
			Remote: curve.Public(w.x), Peer: curve.Public(w.a), Far: w.local,
		})
	}
}

func TestAcceptLooksAtNoMarks(t *testing.T) {
	w := drawnEnds(53)
	message, _ := w.begun(t)
	want, stamp, errno := Accept(w.b, message)
	wantErrno(t, "Accept", errno, api.OK)
	for i := 116; i < 148; i++ {
		hand, same, errno := Accept(w.b, turned(message, i, 0xff))
		wantErrno(t, fmt.Sprintf("byte %d", i), errno, api.OK)
		checkHand(t, fmt.Sprintf("byte %d", i), hand, want)
		checkText(t, fmt.Sprintf("byte %d, stamp", i), string(same[:]), string(stamp[:]))
	}
}

// The index is under no seal: another one is accepted, and told.
func TestAcceptTellsTheIndex(t *testing.T) {
	w := drawnEnds(54)
	message, _ := w.begun(t)
	want, _, _ := Accept(w.b, message)
	for _, index := range []uint32{0, 1, 0x100, 0x10000, 0x1000000, 0x04030201, 1<<32 - 1} {
		hand, _, errno := Accept(w.b, put(message, 4, little(index)))
		wantErrno(t, fmt.Sprintf("index %x", index), errno, api.OK)
		want.Far = index
		checkHand(t, fmt.Sprintf("index %x", index), hand, want)
	}
}

func TestAcceptOfAnotherSize(t *testing.T) {
	w := drawnEnds(55)
	message, _ := w.begun(t)
	for _, n := range []int{0, 1, 3, 4, 8, 60, 64, 92, 115, 116, 117, 132, 147} {
		wantNoAccept(t, fmt.Sprintf("%d bytes", n), w.b, message[:n], api.ErrSize)
		wantNoAccept(t, fmt.Sprintf("%d bytes 0", n), w.b, strings.Repeat("\x00", n), api.ErrSize)
	}
	for _, n := range []int{1, 2, 148, 100000} {
		wantNoAccept(t, fmt.Sprintf("%d bytes more", n), w.b, message+strings.Repeat("m", n), api.ErrSize)
	}
}

func TestAcceptOfAnotherKind(t *testing.T) {
	w := drawnEnds(56)
	message, _ := w.begun(t)
	for _, kind := range otherKinds(1) {
		wantNoAccept(t, fmt.Sprintf("kind %x", kind), w.b, put(message, 0, kind), api.ErrType)
		wantNoAccept(t, fmt.Sprintf("kind %x, no key", kind), w.b, kind+strings.Repeat("\x00", 144), api.ErrType)
	}
}

func TestAcceptOpensNothingElse(t *testing.T) {
	w := drawnEnds(57)
	message, _ := w.begun(t)
	for i := 8; i < 116; i++ {
		wantNoAccept(t, fmt.Sprintf("byte %d turned", i), w.b, turned(message, i, 1<<(i%8)), api.ErrOpen)
	}
	// The highest bit of the ephemeral key is nothing to the curve, but is mixed in.
	wantNoAccept(t, "highest bit of the ephemeral key", w.b, turned(message, 39, 0x80), api.ErrOpen)
	wantNoAccept(t, "another end", w.a, message, api.ErrOpen)
	wantNoAccept(t, "another end", turnedKey(w.b), message, api.ErrOpen)
	other, _ := drawnEnds(58).begun(t)
	wantNoAccept(t, "two boxes of another one", w.b, message[:40]+other[40:], api.ErrOpen)
	wantNoAccept(t, "a box of another one", w.b, message[:88]+other[88:], api.ErrOpen)
}

func TestAcceptWithoutASecret(t *testing.T) {
	w := drawnEnds(59)
	zero := strings.Repeat("\x00", 32)
	to := modelPublic(t, string(w.b[:]))
	marks := strings.Repeat("m", 32)
	message, _ := w.begun(t)
	for _, small := range smallKeys(t) {
		key := string(small[:])
		wantNoAccept(t, fmt.Sprintf("ephemeral key %x, other boxes", key), w.b, put(message, 8, key), api.ErrZero)
		// All of it would open, if a secret that is zero were one.
		whole, _ := modelInitiation(t, to, key, modelPublic(t, string(w.a[:])), zero, modelSecret(t, string(w.a[:]), to), string(w.stamp[:]), 1)
		wantNoAccept(t, fmt.Sprintf("ephemeral key %x", key), w.b, whole+marks, api.ErrZero)
		wantNoAccept(t, fmt.Sprintf("ephemeral key %x, a byte less", key), w.b, whole+marks[1:], api.ErrSize)
		wantNoAccept(t, fmt.Sprintf("ephemeral key %x, another kind", key), w.b, turned(whole+marks, 0, 2), api.ErrType)
		e := modelPublic(t, string(w.x[:]))
		whole, _ = modelInitiation(t, to, e, key, modelSecret(t, string(w.x[:]), to), zero, string(w.stamp[:]), 1)
		wantNoAccept(t, fmt.Sprintf("peer %x", key), w.b, whole+marks, api.ErrZero)
		wantNoAccept(t, fmt.Sprintf("peer %x, another second box", key), w.b, turned(whole+marks, 100, 1), api.ErrZero)
		wantNoAccept(t, fmt.Sprintf("peer %x, another first box", key), w.b, turned(whole+marks, 60, 1), api.ErrOpen)
	}
}

// P7.3

// drawnHand has something in each field: what a call has no use for is to make no difference.
func drawnHand(source *rand.Rand) api.Hand {
	return api.Hand{
		Hash: drawnKey(source), Chain: drawnKey(source), Own: drawnKey(source),
		Remote: curve.Public(drawnKey(source)), Peer: curve.Public(drawnKey(source)),
		Local: source.Uint32(), Far: source.Uint32(),
	}
}

func TestAnswer(t *testing.T) {
	source := rand.New(rand.NewPCG(7, 1000))
	for i, w := range someEnds() {
		h := drawnHand(source)
		e := modelPublic(t, string(w.y[:]))
		want, keys := modelResponse(t, model{string(h.Hash[:]), string(h.Chain[:])}, e,
			modelSecret(t, string(w.y[:]), string(h.Remote[:])), modelSecret(t, string(w.y[:]), string(h.Peer[:])),
			string(w.shared[:]), w.far, h.Far)
		message, pair, errno := Answer(h, w.shared, w.y, w.far)
		what := fmt.Sprintf("Answer, ends %d", i)
		wantErrno(t, what, errno, api.OK)
		checkText(t, what, message, want)
		checkPair(t, what, pair, api.Pair{Send: [32]byte([]byte(keys[1])), Recv: [32]byte([]byte(keys[0])), Local: w.far, Far: h.Far})
		h.Own, h.Local = drawnKey(source), source.Uint32()
		again, same, _ := Answer(h, w.shared, w.y, w.far)
		checkText(t, what+", fields of no use", again, message)
		checkPair(t, what+", fields of no use", same, pair)
	}
}

func TestAnswerWithoutASecret(t *testing.T) {
	w := drawnEnds(60)
	source := rand.New(rand.NewPCG(7, 1001))
	for _, small := range smallKeys(t) {
		h := drawnHand(source)
		h.Remote = small
		wantNoAnswer(t, fmt.Sprintf("Remote %x", small), h, w, api.ErrZero)
		h = drawnHand(source)
		h.Peer = small
		wantNoAnswer(t, fmt.Sprintf("Peer %x", small), h, w, api.ErrZero)
	}
	wantNoAnswer(t, "a hand of nothing", api.Hand{}, w, api.ErrZero)
}

// P7.4

func TestFinish(t *testing.T) {
	source := rand.New(rand.NewPCG(7, 1002))
	for i, w := range someEnds() {
		h := drawnHand(source)
		e := modelPublic(t, string(w.y[:]))
		message, keys := modelResponse(t, model{string(h.Hash[:]), string(h.Chain[:])}, e,
			modelSecret(t, string(h.Own[:]), e), modelSecret(t, string(w.a[:]), e), string(w.shared[:]), w.far, h.Local)
		pair, errno := Finish(w.a, h, w.shared, message+strings.Repeat("\x00", 32))
		what := fmt.Sprintf("Finish, ends %d", i)
		want := api.Pair{Send: [32]byte([]byte(keys[0])), Recv: [32]byte([]byte(keys[1])), Local: h.Local, Far: w.far}
		wantErrno(t, what, errno, api.OK)
		checkPair(t, what, pair, want)
		h.Remote, h.Peer, h.Far = [32]byte{}, drawnKey(source), source.Uint32()
		pair, errno = Finish(w.a, h, w.shared, message+strings.Repeat("\x00", 32))
		wantErrno(t, what+", fields of no use", errno, api.OK)
		checkPair(t, what+", fields of no use", pair, want)
	}
}

func TestFinishLooksAtNoMarks(t *testing.T) {
	w := drawnEnds(61)
	message, h := w.answered(t)
	want, errno := Finish(w.a, h, w.shared, message)
	wantErrno(t, "Finish", errno, api.OK)
	for i := 60; i < 92; i++ {
		pair, errno := Finish(w.a, h, w.shared, turned(message, i, 0xff))
		wantErrno(t, fmt.Sprintf("byte %d", i), errno, api.OK)
		checkPair(t, fmt.Sprintf("byte %d", i), pair, want)
	}
}

// The index of the end that answers is under no seal: another one is told.
func TestFinishTellsTheIndex(t *testing.T) {
	w := drawnEnds(62)
	message, h := w.answered(t)
	want, _ := Finish(w.a, h, w.shared, message)
	for _, index := range []uint32{0, 1, 0x100, 0x10000, 0x1000000, 0x04030201, 1<<32 - 1} {
		pair, errno := Finish(w.a, h, w.shared, put(message, 4, little(index)))
		wantErrno(t, fmt.Sprintf("index %x", index), errno, api.OK)
		want.Far = index
		checkPair(t, fmt.Sprintf("index %x", index), pair, want)
	}
}

func TestFinishOfAnotherSize(t *testing.T) {
	w := drawnEnds(63)
	message, h := w.answered(t)
	for _, n := range []int{0, 1, 3, 4, 8, 11, 12, 59, 60, 61, 64, 76, 91} {
		wantNoFinish(t, fmt.Sprintf("%d bytes", n), w.a, h, w.shared, message[:n], api.ErrSize)
		wantNoFinish(t, fmt.Sprintf("%d bytes 0", n), w.a, h, w.shared, strings.Repeat("\x00", n), api.ErrSize)
	}
	for _, n := range []int{1, 2, 56, 100000} {
		wantNoFinish(t, fmt.Sprintf("%d bytes more", n), w.a, h, w.shared, message+strings.Repeat("m", n), api.ErrSize)
	}
}

func TestFinishOfAnotherKind(t *testing.T) {
	w := drawnEnds(64)
	message, h := w.answered(t)
	for _, kind := range otherKinds(2) {
		wantNoFinish(t, fmt.Sprintf("kind %x", kind), w.a, h, w.shared, put(message, 0, kind), api.ErrType)
		wantNoFinish(t, fmt.Sprintf("kind %x, another index", kind), w.a, h, w.shared, put(message, 0, kind+little(1)+little(h.Local+1)), api.ErrType)
	}
}

func TestFinishOfAnotherIndex(t *testing.T) {
	w := drawnEnds(65)
	message, h := w.answered(t)
	for bit := range 32 {
		other := put(message, 8, little(h.Local^1<<bit))
		wantNoFinish(t, fmt.Sprintf("index without bit %d", bit), w.a, h, w.shared, other, api.ErrIndex)
		wantNoFinish(t, "and no secret", w.a, h, w.shared, put(other, 12, strings.Repeat("\x00", 32)), api.ErrIndex)
		wantNoFinish(t, "and another box", w.a, h, w.shared, turned(other, 50, 1), api.ErrIndex)
	}
	// Its own index is of no account here, even if it is the one that is asked for.
	swapped := put(message, 4, little(h.Local)+little(h.Local+1))
	wantNoFinish(t, "the indices the other way round", w.a, h, w.shared, swapped, api.ErrIndex)
}

func TestFinishOpensNothingElse(t *testing.T) {
	w := drawnEnds(66)
	message, h := w.answered(t)
	for i := 12; i < 60; i++ {
		wantNoFinish(t, fmt.Sprintf("byte %d turned", i), w.a, h, w.shared, turned(message, i, 1<<(i%8)), api.ErrOpen)
	}
	wantNoFinish(t, "highest bit of the ephemeral key", w.a, h, w.shared, turned(message, 43, 0x80), api.ErrOpen)
	wantNoFinish(t, "another shared key", w.a, h, turnedKey(w.shared), message, api.ErrOpen)
	wantNoFinish(t, "no shared key", w.a, h, [32]byte{}, message, api.ErrOpen)
	wantNoFinish(t, "another end", turnedKey(w.a), h, w.shared, message, api.ErrOpen)
	for i, g := range []api.Hand{h, h, h} {
		field := []*[32]byte{&g.Hash, &g.Chain, &g.Own}[i]
		*field = turnedKey(*field)
		wantNoFinish(t, fmt.Sprintf("field %d of the hand turned", i), w.a, g, w.shared, message, api.ErrOpen)
	}
}

func TestFinishWithoutASecret(t *testing.T) {
	w := drawnEnds(67)
	message, h := w.answered(t)
	zero := strings.Repeat("\x00", 32)
	for _, small := range smallKeys(t) {
		key := string(small[:])
		wantNoFinish(t, fmt.Sprintf("ephemeral key %x, another box", key), w.a, h, w.shared, put(message, 12, key), api.ErrZero)
		whole, _ := modelResponse(t, model{string(h.Hash[:]), string(h.Chain[:])}, key, zero, zero, string(w.shared[:]), w.far, h.Local)
		wantNoFinish(t, fmt.Sprintf("ephemeral key %x", key), w.a, h, w.shared, whole+zero, api.ErrZero)
	}
}

// P7.8, the handshake

func TestEndsMirrorOneAnother(t *testing.T) {
	for i, w := range someEnds() {
		what := fmt.Sprintf("ends %d", i)
		message, mine, errno := Begin(w.a, curve.Public(w.b), w.x, w.stamp, w.local)
		wantErrno(t, what+", Begin", errno, api.OK)
		message, errno = Mark(message, curve.Public(w.b), "")
		wantErrno(t, what+", Mark", errno, api.OK)
		theirs, stamp, errno := Accept(w.b, message)
		wantErrno(t, what+", Accept", errno, api.OK)
		if theirs.Peer != curve.Public(w.a) || stamp != w.stamp {
			t.Errorf("%s: learnt %x and %x, want %x and %x", what, theirs.Peer, stamp, curve.Public(w.a), w.stamp)
		}
		message, p, errno := Answer(theirs, w.shared, w.y, w.far)
		wantErrno(t, what+", Answer", errno, api.OK)
		message, errno = Mark(message, theirs.Peer, strings.Repeat("c", 16))
		wantErrno(t, what+", Mark", errno, api.OK)
		q, errno := Finish(w.a, mine, w.shared, message)
		wantErrno(t, what+", Finish", errno, api.OK)
		checkPair(t, what, q, api.Pair{Send: p.Recv, Recv: p.Send, Local: p.Far, Far: p.Local})
		if p.Send == p.Recv || p.Local != w.far || p.Far != w.local {
			t.Errorf("%s: keypair %x", what, p)
		}
	}
}

// Whatever the ends go by is in their keys: none of two handshakes that differ in one thing are the same.
func TestAllOfItIsInTheKeys(t *testing.T) {
	plain := drawnEnds(68)
	l := []ends{plain}
	for i := range 6 {
		w := plain
		switch i {
		case 0:
			w.a = turnedKey(w.a)
		case 1:
			w.b = turnedKey(w.b)
		case 2:
			w.x = turnedKey(w.x)
		case 3:
			w.y = turnedKey(w.y)
		case 4:
			w.shared = turnedKey(w.shared)
		case 5:
			w.shared = [32]byte{}
		}
		l = append(l, w)
	}
	seen := map[[32]byte]int{}
	for i, w := range l {
		message, h := w.answered(t)
		pair, errno := Finish(w.a, h, w.shared, message)
		wantErrno(t, fmt.Sprintf("handshake %d", i), errno, api.OK)
		for _, key := range [][32]byte{pair.Send, pair.Recv} {
			if j, is := seen[key]; is {
				t.Errorf("handshakes %d and %d have one key", i, j)
			}
			seen[key] = i
		}
	}
}

// R4: the same calls have the same answers.
func TestNothingIsKept(t *testing.T) {
	w := drawnEnds(69)
	message, h := w.answered(t)
	want, _ := Finish(w.a, h, w.shared, message)
	wantNoFinish(t, "another box", w.a, h, w.shared, turned(message, 50, 1), api.ErrOpen)
	again, g := w.answered(t)
	checkText(t, "the response", again, message)
	checkHand(t, "the hand", g, h)
	pair, errno := Finish(w.a, h, w.shared, message)
	wantErrno(t, "Finish", errno, api.OK)
	checkPair(t, "Finish", pair, want)
}

// What is no error of the document is a fault of the program, and is not told as one of the errors.
func TestAttemptHidesNoFault(t *testing.T) {
	defer func() {
		if recover() == nil {
			t.Error("a fault of the program was hidden")
		}
	}()
	attempt(func() { panic("a fault") })
}

// P1: whatever is handed in, each call ends and tells nothing beside an error.
func FuzzMessages(f *testing.F) {
	f.Add("", "")
	f.Add("\x01\x00\x00\x00"+strings.Repeat("\x00", 144), strings.Repeat("c", 16))
	f.Add("\x02\x00\x00\x00"+strings.Repeat("\x01", 88), strings.Repeat("c", 15))
	f.Add("\x03\x00\x00\x00"+strings.Repeat("\x02", 60), strings.Repeat("c", 17))
	f.Add(strings.Repeat("\x03", 116), "")
	f.Add(strings.Repeat("\x04", 60), "c")
	f.Fuzz(func(t *testing.T, message, cookie string) {
		own, key := countedFrom(7), countedFrom(77)
		if h, stamp, errno := Accept(own, message); errno != api.OK && (h != api.Hand{} || stamp != [12]byte{}) {
			t.Errorf("Accept: %x and %x beside error %d", h, stamp, errno)
		}
		if p, errno := Finish(own, api.Hand{}, key, message); errno != api.OK && p != (api.Pair{}) {
			t.Errorf("Finish: %x beside error %d", p, errno)
		}
		marked, errno := Mark(message, key, cookie)
		if errno != api.OK && marked != "" {
			t.Errorf("Mark: %x beside error %d", marked, errno)
		}
		if errno == api.OK && (!Marked(marked, key) || Cookied(marked, cookie) != (cookie != "")) {
			t.Errorf("%x is not as it was marked", marked)
		}
		Marked(message, key)
		Cookied(message, cookie)
		if boxed, errno := Box(key, [24]byte{1}, message, cookie); errno != api.OK && boxed != "" {
			t.Errorf("Box: %x beside error %d", boxed, errno)
		}
		if text, errno := Unbox(key, cookie, message); errno != api.OK && text != "" {
			t.Errorf("Unbox: %x beside error %d", text, errno)
		}
	})
}
