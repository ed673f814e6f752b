package noise

import (
	"encoding/binary"
	"fmt"
	"math"
	"math/big"
	"math/rand/v2"
	"slices"
	"strings"
	"testing"

	"adit/aead"
	"adit/api"
	"adit/blake"
	"adit/curve"
)

func modelMark(t *testing.T, key, text string) string {
	t.Helper()
	mark, errno := blake.Keyed(16, key, text)
	if errno != api.OK {
		t.Fatalf("no mark: error %d", errno)
	}
	return mark
}

// modelMarked is a message with both marks; second is what the second one is made by, or empty.
func modelMarked(t *testing.T, message string, to [32]byte, second string) string {
	t.Helper()
	marked := message + modelMark(t, modelSum("mac1----", string(to[:])), message)
	if second == "" {
		return marked + strings.Repeat("\x00", 16)
	}
	return marked + modelMark(t, second, marked)
}

func checkMarked(t *testing.T, what, message string, key [32]byte, want bool) {
	t.Helper()
	if got := Marked(message, key); got != want {
		t.Errorf("%s: Marked tells %t", what, got)
	}
}

func checkCookied(t *testing.T, what, message, cookie string, want bool) {
	t.Helper()
	if got := Cookied(message, cookie); got != want {
		t.Errorf("%s: Cookied tells %t", what, got)
	}
}

func wantNoText(t *testing.T, what, got string, errno, want api.Errno) {
	t.Helper()
	wantErrno(t, what, errno, want)
	checkText(t, what, got, "")
}

// otherSizes are those of no message with its marks, or, less 32, without.
func otherSizes() []int {
	return []int{0, 1, 4, 16, 28, 32, 59, 61, 64, 84, 91, 93, 115, 117, 147, 149, 180, 1000, 100000}
}

// Bytes that another program made.

const (
	otherCookie  = "19b765c03ec373930ef95b88b3692f6c"
	otherCookie6 = "c4894b62b363ee646a65c5126a375dc0"
	otherBox     = "0300000001020304c8c9cacbcccdcecfd0d1d2d3d4d5d6d7d8d9dadbdcdddedf8a21542cb6a41faa224feeedf0f41131da6913212aee603643a1bc8b5ea43353"
)

func TestMarksOfAnotherProgram(t *testing.T) {
	w := countedEnds()
	secret, nonce := countedFrom(100), countedFrom(200)
	cookie := Cookie(secret, api.Endpoint{Addr: api.Addr{B: [16]byte{10, 0, 0, 1}}, Port: 51820})
	checkText(t, "cookie of 10.0.0.1", cookie, unhex(t, otherCookie))
	counted := countedFrom(0)
	cookie6 := Cookie(secret, api.Endpoint{Addr: api.Addr{V6: true, B: [16]byte(counted[:16])}, Port: 258})
	checkText(t, "cookie of version 6", cookie6, unhex(t, otherCookie6))

	marked, errno := Mark(unhex(t, otherInitiation), curve.Public(w.b), cookie)
	wantErrno(t, "Mark", errno, api.OK)
	checkText(t, "marks", marked[116:], unhex(t, "957101cc81f314ed98c007ef0a1f074ab0aa2b25baaa34c3a8416b152c733565"))
	response, errno := Mark(unhex(t, otherResponse), curve.Public(w.a), cookie6)
	wantErrno(t, "Mark", errno, api.OK)
	checkText(t, "marks of the response", response[60:], unhex(t, "de7ea1937ad194b9eb9a9c9f8867ad1022f7b89ce855c864bbb418e5fe8774c2"))

	boxed, errno := Box(curve.Public(w.b), [24]byte(nonce[:24]), marked, cookie)
	wantErrno(t, "Box", errno, api.OK)
	checkText(t, "box", boxed, unhex(t, otherBox))
	found, errno := Unbox(curve.Public(w.b), marked[116:132], unhex(t, otherBox))
	wantErrno(t, "Unbox", errno, api.OK)
	checkText(t, "cookie in the box", found, cookie)
}

// P7.5

func TestMark(t *testing.T) {
	source := rand.New(rand.NewPCG(7, 2000))
	for range 20 {
		to, cookie := drawnKey(source), drawnText(source, 16)
		for _, n := range []int{116, 60} {
			message := drawnText(source, n)
			for _, by := range []string{"", cookie, strings.Repeat("\x00", 16)} {
				what := fmt.Sprintf("%d bytes, cookie %x", n, by)
				marked, errno := Mark(message, to, by)
				wantErrno(t, what, errno, api.OK)
				checkText(t, what, marked, modelMarked(t, message, to, by))
			}
		}
	}
}

func TestMarkOfAnotherSize(t *testing.T) {
	for _, n := range append(otherSizes(), 92, 148) {
		message := strings.Repeat("\x01", n)
		for _, cookie := range []string{"", "0123456789abcdef", "0", "0123456789abcdef0"} {
			marked, errno := Mark(message, [32]byte{7}, cookie)
			wantNoText(t, fmt.Sprintf("%d bytes, cookie of %d", n, len(cookie)), marked, errno, api.ErrSize)
		}
	}
}

func TestMarkByNoCookie(t *testing.T) {
	for _, n := range []int{116, 60} {
		for _, m := range []int{1, 2, 15, 17, 32, 33, 1000} {
			marked, errno := Mark(strings.Repeat("\x01", n), [32]byte{7}, strings.Repeat("c", m))
			wantNoText(t, fmt.Sprintf("%d bytes, cookie of %d", n, m), marked, errno, api.ErrArg)
		}
	}
}

func TestMarked(t *testing.T) {
	source := rand.New(rand.NewPCG(7, 2001))
	for _, n := range []int{116, 60} {
		key := drawnKey(source)
		marked := modelMarked(t, drawnText(source, n), key, drawnText(source, 16))
		checkMarked(t, "as it is", marked, key, true)
		checkMarked(t, "another key", marked, turnedKey(key), false)
		for i := range n + 16 {
			checkMarked(t, fmt.Sprintf("byte %d turned", i), turned(marked, i, 1<<(i%8)), key, false)
		}
		for i := n + 16; i < n+32; i++ {
			checkMarked(t, fmt.Sprintf("byte %d of the second mark turned", i), turned(marked, i, 0xff), key, true)
		}
		checkMarked(t, "a byte less", marked[:n+31], key, false)
		checkMarked(t, "a byte more", marked+"m", key, false)
		checkMarked(t, "without the second mark", marked[:n+16], key, false)
		checkMarked(t, "without marks", marked[:n], key, false)
	}
}

func TestMarkedOfAnotherSize(t *testing.T) {
	key := [32]byte{9}
	for _, n := range otherSizes() {
		checkMarked(t, fmt.Sprintf("%d bytes with the marks", n+32), modelMarked(t, strings.Repeat("\x01", n), key, ""), key, false)
		checkMarked(t, fmt.Sprintf("%d bytes", n), strings.Repeat("\x01", n), key, false)
	}
}

func TestCookied(t *testing.T) {
	source := rand.New(rand.NewPCG(7, 2002))
	for _, n := range []int{116, 60} {
		cookie := drawnText(source, 16)
		marked := modelMarked(t, drawnText(source, n), drawnKey(source), cookie)
		checkCookied(t, "as it is", marked, cookie, true)
		for i := range n + 32 {
			checkCookied(t, fmt.Sprintf("byte %d turned", i), turned(marked, i, 1<<(i%8)), cookie, false)
		}
		for i := range 16 {
			checkCookied(t, fmt.Sprintf("byte %d of the cookie turned", i), marked, turned(cookie, i, 1<<(i%8)), false)
		}
		checkCookied(t, "a byte less", marked[:n+31], cookie, false)
		checkCookied(t, "a byte more", marked+"m", cookie, false)
	}
}

// The second mark is made of the first one that stands there, whether that is right or not.
func TestCookiedAsksNothingOfTheFirstMark(t *testing.T) {
	cookie := "0123456789abcdef"
	for _, n := range []int{116, 60} {
		text := strings.Repeat("\x01", n) + strings.Repeat("w", 16)
		checkCookied(t, "behind a wrong mark", text+modelMark(t, cookie, text), cookie, true)
		checkMarked(t, "a wrong mark", text+modelMark(t, cookie, text), [32]byte{}, false)
	}
}

// What would be right by a cookie of that size is not: a message marked without one is Cookied by none.
func TestCookiedByNoCookie(t *testing.T) {
	message := strings.Repeat("\x01", 116)
	for _, m := range []int{0, 1, 15, 17, 32} {
		cookie := strings.Repeat("c", m)
		checkCookied(t, fmt.Sprintf("cookie of %d", m), modelMarked(t, message, [32]byte{7}, cookie), cookie, false)
	}
	checkCookied(t, "no cookie", modelMarked(t, message, [32]byte{7}, ""), "", false)
	checkCookied(t, "cookie of 33", strings.Repeat("\x00", 148), strings.Repeat("c", 33), false)
	none := modelMarked(t, message, [32]byte{7}, "")
	checkCookied(t, "zeros for the cookie", none, strings.Repeat("\x00", 16), false)
	empty := none[:132] + modelMark(t, "", none[:132])
	checkCookied(t, "a mark by the empty key", empty, "", false)
}

func TestCookiedOfAnotherSize(t *testing.T) {
	cookie := "0123456789abcdef"
	for _, n := range otherSizes() {
		checkCookied(t, fmt.Sprintf("%d bytes with the marks", n+32), modelMarked(t, strings.Repeat("\x01", n), [32]byte{9}, cookie), cookie, false)
		checkCookied(t, fmt.Sprintf("%d bytes", n), strings.Repeat("\x01", n), cookie, false)
	}
}

// P7.6

func TestCookie(t *testing.T) {
	source := rand.New(rand.NewPCG(7, 2003))
	for _, port := range []int{0, 1, 255, 256, 258, 51820, 65535, 65536, 65537, 1 << 40, 1<<40 + 513, math.MaxInt, -1, -65535, -65536, math.MinInt, math.MinInt + 7} {
		for _, v6 := range []bool{false, true} {
			secret, address := drawnKey(source), drawnText(source, 16)
			rest := new(big.Int).Mod(big.NewInt(int64(port)), big.NewInt(65536)).Uint64()
			text := map[bool]string{false: "\x04", true: "\x06"}[v6] + address + string(binary.BigEndian.AppendUint16(nil, uint16(rest)))
			from := api.Endpoint{Addr: api.Addr{V6: v6, B: [16]byte([]byte(address))}, Port: port}
			checkText(t, fmt.Sprintf("port %d, version 6 %t", port, v6), Cookie(secret, from), modelMark(t, string(secret[:]), text))
		}
	}
}

// Each byte of the secret and of the endpoint counts, those behind a short address too.
func TestCookieOfEachByte(t *testing.T) {
	seen := map[string]bool{}
	count := 0
	add := func(secret [32]byte, from api.Endpoint) {
		seen[Cookie(secret, from)] = true
		count++
	}
	add([32]byte{}, api.Endpoint{})
	add([32]byte{}, api.Endpoint{Addr: api.Addr{V6: true}})
	for i := range 32 {
		var secret [32]byte
		secret[i] = 1
		add(secret, api.Endpoint{})
	}
	for i := range 16 {
		var b [16]byte
		b[i] = 1
		add([32]byte{}, api.Endpoint{Addr: api.Addr{B: b}})
		add([32]byte{}, api.Endpoint{Port: 1 << i})
	}
	if len(seen) != count {
		t.Errorf("%d endpoints and secrets have %d cookies", count, len(seen))
	}
}

// modelBox is a cookie message.
func modelBox(key [32]byte, nonce [24]byte, index, first, cookie string) string {
	by := modelSum("cookie--", string(key[:]))
	return "\x03\x00\x00\x00" + index + string(nonce[:]) + aead.SealWide([32]byte([]byte(by)), nonce, cookie, first)
}

func TestBox(t *testing.T) {
	source := rand.New(rand.NewPCG(7, 2004))
	for range 10 {
		for _, n := range []int{148, 92} {
			key, nonce := drawnKey(source), [24]byte([]byte(drawnText(source, 24)))
			message, cookie := drawnText(source, n), drawnText(source, 16)
			boxed, errno := Box(key, nonce, message, cookie)
			what := fmt.Sprintf("Box, %d bytes", n)
			wantErrno(t, what, errno, api.OK)
			checkText(t, what, boxed, modelBox(key, nonce, message[4:8], message[n-32:n-16], cookie))
		}
	}
}

func TestBoxOfAnotherSize(t *testing.T) {
	for _, n := range append(otherSizes(), 60, 116) {
		for _, cookie := range []string{"0123456789abcdef", "", "0", "0123456789abcdef0"} {
			boxed, errno := Box([32]byte{7}, [24]byte{8}, strings.Repeat("\x01", n), cookie)
			wantNoText(t, fmt.Sprintf("%d bytes, cookie of %d", n, len(cookie)), boxed, errno, api.ErrSize)
		}
	}
}

func TestBoxOfNoCookie(t *testing.T) {
	for _, n := range []int{148, 92} {
		for _, m := range []int{0, 1, 15, 17, 32, 1000} {
			boxed, errno := Box([32]byte{7}, [24]byte{8}, strings.Repeat("\x01", n), strings.Repeat("c", m))
			wantNoText(t, fmt.Sprintf("%d bytes, cookie of %d", n, m), boxed, errno, api.ErrArg)
		}
	}
}

func TestUnbox(t *testing.T) {
	source := rand.New(rand.NewPCG(7, 2005))
	for range 10 {
		key, nonce := drawnKey(source), [24]byte([]byte(drawnText(source, 24)))
		index, first, cookie := drawnText(source, 4), drawnText(source, 16), drawnText(source, 16)
		found, errno := Unbox(key, first, modelBox(key, nonce, index, first, cookie))
		wantErrno(t, "Unbox", errno, api.OK)
		checkText(t, "Unbox", found, cookie)
	}
}

func TestUnboxOfAnotherForm(t *testing.T) {
	key, first := [32]byte{7}, "0123456789abcdef"
	message := modelBox(key, [24]byte{8}, "ijkl", first, "fedcba9876543210")
	for _, mark := range []string{first, "", first[:15], first + "0"} {
		for _, n := range []int{0, 1, 3, 4, 8, 32, 48, 60, 63} {
			found, errno := Unbox(key, mark, message[:n])
			wantNoText(t, fmt.Sprintf("%d bytes, mark of %d", n, len(mark)), found, errno, api.ErrSize)
			found, errno = Unbox(key, mark, message+strings.Repeat("m", n+1))
			wantNoText(t, fmt.Sprintf("%d bytes, mark of %d", 65+n, len(mark)), found, errno, api.ErrSize)
		}
		for _, kind := range otherKinds(3) {
			found, errno := Unbox(key, mark, put(message, 0, kind))
			wantNoText(t, fmt.Sprintf("kind %x, mark of %d", kind, len(mark)), found, errno, api.ErrType)
			found, errno = Unbox(key, mark, put(message, 0, kind)+"m")
			wantNoText(t, fmt.Sprintf("kind %x, 65 bytes", kind), found, errno, api.ErrSize)
		}
	}
	for _, m := range []int{0, 1, 15, 17, 32, 1000} {
		mark := strings.Repeat("m", m)
		found, errno := Unbox(key, mark, message)
		wantNoText(t, fmt.Sprintf("mark of %d", m), found, errno, api.ErrArg)
		// It would open beside that mark, if it were one.
		found, errno = Unbox(key, mark, modelBox(key, [24]byte{8}, "ijkl", mark, "fedcba9876543210"))
		wantNoText(t, fmt.Sprintf("box beside a mark of %d", m), found, errno, api.ErrArg)
	}
}

func TestUnboxOpensNothingElse(t *testing.T) {
	key, first := [32]byte{7}, "0123456789abcdef"
	message := modelBox(key, [24]byte{8}, "ijkl", first, "fedcba9876543210")
	for i := 8; i < 64; i++ {
		found, errno := Unbox(key, first, turned(message, i, 1<<(i%8)))
		wantNoText(t, fmt.Sprintf("byte %d turned", i), found, errno, api.ErrOpen)
	}
	for i := range 16 {
		found, errno := Unbox(key, turned(first, i, 1<<(i%8)), message)
		wantNoText(t, fmt.Sprintf("byte %d of the mark turned", i), found, errno, api.ErrOpen)
	}
	found, errno := Unbox(turnedKey(key), first, message)
	wantNoText(t, "another key", found, errno, api.ErrOpen)
	// The index says whom it goes to, and is under no seal.
	found, errno = Unbox(key, first, put(message, 4, "mnop"))
	wantErrno(t, "another index", errno, api.OK)
	checkText(t, "another index", found, "fedcba9876543210")
}

// P7.7

// times are those around seconds, the greatest one that a stamp tells, and the bounds of both.
func times() []int {
	l := []int{0, 1, 2, 9, 10, 254, 255, 256, 257, 999, 1000, 1001, 1500, 1999, 2000, 245000, 246000, 65535999, 65536000,
		1 << 31, 1 << 32, 1<<40 - 1001, 1<<40 - 1000, 1<<40 - 1, 1 << 40}
	source := rand.New(rand.NewPCG(7, 2006))
	for range 200 {
		l = append(l, source.IntN(1<<40+1))
	}
	slices.Sort(l)
	return slices.Compact(l)
}

func modelStamp(now int) string {
	second := new(big.Int).Add(new(big.Int).Lsh(big.NewInt(1), 62), big.NewInt(10))
	second.Add(second, big.NewInt(int64(now/1000)))
	rest := big.NewInt(int64(now%1000) * 1000000)
	return string(second.FillBytes(make([]byte, 8))) + string(rest.FillBytes(make([]byte, 4)))
}

func checkStamp(t *testing.T, now int, want string) {
	t.Helper()
	stamp := Stamp(now)
	checkText(t, fmt.Sprintf("Stamp(%d)", now), string(stamp[:]), want)
}

func TestStamp(t *testing.T) {
	checkStamp(t, 0, unhex(t, "400000000000000a00000000"))
	checkStamp(t, 999, unhex(t, "400000000000000a3b8b87c0"))
	checkStamp(t, 1000, unhex(t, "400000000000000b00000000"))
	checkStamp(t, 1<<40, unhex(t, "40000000418937552e40d200"))
	for _, now := range times() {
		checkStamp(t, now, modelStamp(now))
	}
}

func TestStampIsKeptWithinItsBounds(t *testing.T) {
	for _, now := range []int{-1, -2, -1000, -1 << 40, math.MinInt + 1, math.MinInt} {
		checkStamp(t, now, modelStamp(0))
	}
	for _, now := range []int{1<<40 + 1, 1<<40 + 1000, 1 << 41, 1 << 62, math.MaxInt - 1, math.MaxInt} {
		checkStamp(t, now, modelStamp(1<<40))
	}
}

func TestLater(t *testing.T) {
	for i := range 12 {
		var low, high [12]byte
		low[i], high[i] = 0x7f, 0x80
		// What stands behind the first byte that differs is of no account.
		for j := i + 1; j < 12; j++ {
			low[j] = 0xff
		}
		if !Later(high, low) || Later(low, high) {
			t.Errorf("Later of %x and %x, and the other way round: %t, %t", high, low, Later(high, low), Later(low, high))
		}
		if Later(low, low) || Later(high, high) {
			t.Errorf("%x or %x is later than itself", low, high)
		}
	}
	full := [12]byte([]byte(strings.Repeat("\xff", 12)))
	if !Later(full, [12]byte{}) || Later([12]byte{}, full) || Later([12]byte{}, [12]byte{}) {
		t.Error("the greatest stamp is not later than the least one, or that is later")
	}
}

func TestLaterIsTheGreaterNumber(t *testing.T) {
	source := rand.New(rand.NewPCG(7, 2007))
	for range 2000 {
		a := [12]byte([]byte(drawnText(source, 12)))
		b := a
		for i := source.IntN(13); i < 12; i++ {
			b[i] = byte(source.Uint32())
		}
		want := new(big.Int).SetBytes(a[:]).Cmp(new(big.Int).SetBytes(b[:])) > 0
		if Later(a, b) != want {
			t.Errorf("Later(%x, %x): %t", a, b, !want)
		}
	}
}

// P7.8, the marks, the cookies and the stamps

func TestWhatIsMarkedIsMarked(t *testing.T) {
	w := drawnEnds(70)
	initiation, _ := w.begun(t)
	response, _ := w.answered(t)
	to := curve.Public(w.b)
	cookie := Cookie(w.shared, api.Endpoint{Addr: api.Addr{B: [16]byte{192, 0, 2, 1}}, Port: 4500})
	other := Cookie(w.shared, api.Endpoint{Addr: api.Addr{B: [16]byte{192, 0, 2, 1}}, Port: 4501})
	for _, message := range []string{initiation[:116], response[:60]} {
		marked, errno := Mark(message, to, cookie)
		wantErrno(t, "Mark", errno, api.OK)
		checkMarked(t, "what was marked for them", marked, to, true)
		checkMarked(t, "what was marked for another one", marked, curve.Public(w.a), false)
		checkCookied(t, "by that cookie", marked, cookie, true)
		checkCookied(t, "by another cookie", marked, other, false)
		marked, errno = Mark(message, to, "")
		wantErrno(t, "Mark", errno, api.OK)
		checkMarked(t, "what was marked without a cookie", marked, to, true)
		checkCookied(t, "what was marked without a cookie", marked, cookie, false)
	}
}

func TestWhatIsBoxedIsUnboxed(t *testing.T) {
	source := rand.New(rand.NewPCG(7, 2008))
	for range 10 {
		key, nonce := drawnKey(source), [24]byte([]byte(drawnText(source, 24)))
		cookie := Cookie(drawnKey(source), api.Endpoint{Port: source.IntN(65536)})
		for _, n := range []int{116, 60} {
			marked, errno := Mark(drawnText(source, n), key, "")
			wantErrno(t, "Mark", errno, api.OK)
			boxed, errno := Box(key, nonce, marked, cookie)
			wantErrno(t, "Box", errno, api.OK)
			found, errno := Unbox(key, marked[n:n+16], boxed)
			wantErrno(t, "Unbox", errno, api.OK)
			checkText(t, "Unbox", found, cookie)
			found, errno = Unbox(key, marked[n+16:], boxed)
			wantNoText(t, "by the second mark", found, errno, api.ErrOpen)
		}
	}
}

func TestStampOfALaterMillisecondIsLater(t *testing.T) {
	l := times()
	for i, a := range l[1:] {
		b := l[i]
		for _, c := range []int{b, a - 1} {
			if !Later(Stamp(a), Stamp(c)) || Later(Stamp(c), Stamp(a)) {
				t.Errorf("Later of stamps %d and %d, and the other way round: %t, %t", a, c, Later(Stamp(a), Stamp(c)), Later(Stamp(c), Stamp(a)))
			}
		}
	}
}
