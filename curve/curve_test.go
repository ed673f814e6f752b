package curve

import (
	"crypto/ecdh"
	"encoding/hex"
	"math/big"
	"math/rand/v2"
	"slices"
	"testing"
)

// The tests hold the package against the library's X25519, which shares no code with it.

var (
	bigOne   = big.NewInt(1)
	bigPrime = new(big.Int).Sub(new(big.Int).Lsh(bigOne, 255), big.NewInt(19))
)

func key(t *testing.T, digits string) [32]byte {
	t.Helper()
	b, err := hex.DecodeString(digits)
	if err != nil || len(b) != 32 {
		t.Fatalf("no key: %s", digits)
	}
	return [32]byte(b)
}

func fromBig(n *big.Int) [32]byte {
	var a [32]byte
	n.FillBytes(a[:])
	slices.Reverse(a[:])
	return a
}

func toBig(a [32]byte) *big.Int {
	slices.Reverse(a[:])
	return new(big.Int).SetBytes(a[:])
}

func plusPrime(u [32]byte) [32]byte { return fromBig(new(big.Int).Add(toBig(u), bigPrime)) }

func withTop(a [32]byte) [32]byte {
	a[31] ^= 0x80
	return a
}

func filled(b byte) [32]byte {
	var a [32]byte
	for i := range a {
		a[i] = b
	}
	return a
}

func drawn(seed uint64, n int) [][32]byte {
	source := rand.New(rand.NewPCG(seed, 2))
	l := make([][32]byte, n)
	for i := range l {
		for j := range l[i] {
			l[i][j] = byte(source.Uint32())
		}
	}
	return l
}

// beside are the numbers of 32 bytes within some steps of n.
func beside(n *big.Int, steps int64) [][32]byte {
	var l [][32]byte
	for d := -steps; d <= steps; d++ {
		m := new(big.Int).Add(n, big.NewInt(d))
		if m.Sign() >= 0 && m.BitLen() <= 256 {
			l = append(l, fromBig(m))
		}
	}
	return l
}

// points are numbers around 0, p, 2^255, 2^255 + p and 2^256, and drawn ones, on the curve and beside it.
func points() [][32]byte {
	top := new(big.Int).Lsh(bigOne, 255)
	l := append(beside(new(big.Int), 21), beside(bigPrime, 3)...)
	l = append(l, beside(top, 21)...)
	l = append(l, beside(new(big.Int).Add(top, bigPrime), 3)...)
	l = append(l, beside(new(big.Int).Lsh(top, 1), 2)...)
	l = append(l, smallPoints()...)
	return append(l, drawn(1, 20)...)
}

func keys() [][32]byte {
	l := [][32]byte{{}, {1}, {7}, {8}, {31: 0x40}, {31: 0x80}, filled(0xFF), filled(0xAA), filled(0x55), {9}}
	return append(l, drawn(2, 6)...)
}

// fewKeys are enough where all points are gone through.
func fewKeys() [][32]byte { return [][32]byte{{}, filled(0xFF), drawn(2, 1)[0]} }

// smallPoints are those that any private key takes to 0: of the orders 2, 4 and 8, on the curve and on its twist.
func smallPoints() [][32]byte {
	l := [][32]byte{{}, {1}, fromBig(new(big.Int).Sub(bigPrime, bigOne))}
	for _, digits := range []string{
		"e0eb7a7c3b41b8ae1656e3faf19fc46ada098deb9c32b1fd866205165f49b800",
		"5f9c95bca3508c24b1d0b1559c83ef5b04445cc4581c8e86d8224eddd09f1157",
	} {
		b, _ := hex.DecodeString(digits)
		l = append(l, [32]byte(b))
	}
	l = append(l, plusPrime([32]byte{}), plusPrime([32]byte{1}))
	for _, u := range slices.Clone(l) {
		l = append(l, withTop(u))
	}
	return l
}

// library is what crypto/ecdh answers; it gives an error in place of 0.
func library(t *testing.T, k, u [32]byte) [32]byte {
	t.Helper()
	private, err := ecdh.X25519().NewPrivateKey(k[:])
	if err != nil {
		t.Fatal(err)
	}
	public, err := ecdh.X25519().NewPublicKey(u[:])
	if err != nil {
		t.Fatal(err)
	}
	secret, err := private.ECDH(public)
	if err != nil {
		return [32]byte{}
	}
	return [32]byte(secret)
}

func check(t *testing.T, what string, got, want [32]byte) {
	t.Helper()
	if got != want {
		t.Errorf("%s: %x, want %x", what, got, want)
	}
}

func checkShared(t *testing.T, what string, k, u, want [32]byte, wantOK bool) {
	t.Helper()
	got, ok := Shared(k, u)
	if got != want || ok != wantOK {
		t.Errorf("%s of %x and %x: %x, %v, want %x, %v", what, k, u, got, ok, want, wantOK)
	}
}

func TestExamples(t *testing.T) {
	k := key(t, "a546e36bf0527c9d3b16154b82465edd62144c0ac1fc5a18506a2244ba449ac4")
	u := key(t, "e6db6867583030db3594c1a424b15f7c726624ec26b3353b10a903a6d0ab1c4c")
	check(t, "Times", Times(k, u), key(t, "c3da55379de9c6908e94ea4df28d084f32eccf03491c71f754b4075577a28552"))
	check(t, "Public of 9", Public([32]byte{9}), key(t, "422c8e7a6227d7bca1350b3e2bb7279f7897b87bb6854b783c60e80311ae3079"))
	for _, k := range keys() {
		checkShared(t, "Shared with 0", k, [32]byte{}, [32]byte{}, false)
		checkShared(t, "Shared with 1", k, [32]byte{1}, [32]byte{}, false)
	}
	check(t, "Clamp of ff", Clamp(filled(0xFF)), key(t, "f8ffffffffffffffffffffffffffffffffffffffffffffffffffffffffffff7f"))
	check(t, "Clamp of 00", Clamp([32]byte{}), [32]byte{31: 0x40})
}

// P2.1

// Each bit by itself: the five that are set do not hang on the key, the others are the key's.
func TestClampBits(t *testing.T) {
	fixed := map[int]byte{0: 0, 1: 0, 2: 0, 254: 1, 255: 0}
	for _, k := range keys() {
		got := Clamp(k)
		for bit := range 256 {
			want, ok := fixed[bit]
			if !ok {
				want = k[bit/8] >> (bit % 8) & 1
			}
			if got[bit/8]>>(bit%8)&1 != want {
				t.Errorf("Clamp(%x): bit %d is not %d", k, bit, want)
			}
		}
		check(t, "Clamp of what is so already", Clamp(got), got)
	}
}

func TestTimesIsLibrary(t *testing.T) {
	for _, k := range keys() {
		for _, u := range points() {
			got := Times(k, u)
			if want := library(t, k, u); got != want {
				t.Errorf("Times(%x, %x): %x, want %x", k, u, got, want)
			}
			if toBig(got).Cmp(bigPrime) >= 0 {
				t.Errorf("Times(%x, %x): %x, which is not below p", k, u, got)
			}
		}
	}
}

func TestTimesDrawn(t *testing.T) {
	u := drawn(3, 200)
	for i, k := range drawn(4, 200) {
		if got, want := Times(k, u[i]), library(t, k, u[i]); got != want {
			t.Errorf("Times(%x, %x): %x, want %x", k, u[i], got, want)
		}
	}
}

// A key with one bit beside those that are set: each bit has its own step, at its own place.
func TestEachBitOfKey(t *testing.T) {
	none := Public([32]byte{})
	for bit := 3; bit < 254; bit++ {
		var k [32]byte
		k[bit/8] = 1 << (bit % 8)
		got := Public(k)
		if got == none {
			t.Errorf("bit %d of the key changes nothing", bit)
		}
		check(t, "Public of one bit", got, library(t, k, [32]byte{9}))
	}
}

func TestEachBitOfPoint(t *testing.T) {
	k := drawn(5, 1)[0]
	for bit := range 256 {
		var u [32]byte
		u[bit/8] = 1 << (bit % 8)
		check(t, "Times of one bit", Times(k, u), library(t, k, u))
	}
}

// The vectors of RFC 7748, section 5.2.
func TestKnownAnswers(t *testing.T) {
	k := key(t, "4b66e9d4d1b4673c5ad22691957d6af5c11b6421e0ea01d42ca4169e7918ba0d")
	u := key(t, "e5210f12786811d3f4b7959d0538ae2c31dbe7106fc03c3efc4cd549c715a493")
	check(t, "a point whose highest bit is 1", Times(k, u), key(t, "95cbde9476e8907d7aade45cb4b873f88b595a68799fa152e6f8f7647aac7957"))
	k, u = [32]byte{9}, [32]byte{9}
	for range 1000 {
		k, u = Times(k, u), k
	}
	check(t, "a thousand times", k, key(t, "684cf59ba83309552800ef566f2f4d3c1c3887c49360e3875f2eb94d99532c51"))
}

// P2.2

func TestPublic(t *testing.T) {
	for _, k := range append(keys(), drawn(6, 50)...) {
		got := Public(k)
		check(t, "Public", got, Times(k, [32]byte{9}))
		check(t, "Public", got, library(t, k, [32]byte{9}))
	}
}

func TestShared(t *testing.T) {
	for _, k := range fewKeys() {
		for _, u := range points() {
			want := library(t, k, u)
			checkShared(t, "Shared", k, u, want, want != [32]byte{})
		}
	}
}

func TestSharedOfSmallPoints(t *testing.T) {
	for _, k := range append(keys(), drawn(7, 20)...) {
		for _, u := range smallPoints() {
			checkShared(t, "Shared", k, u, [32]byte{}, false)
		}
	}
}

// The numbers beside the small points are no such points.
func TestSharedBesideSmallPoints(t *testing.T) {
	k := drawn(8, 1)[0]
	for _, u := range smallPoints()[:5] {
		for _, d := range []int64{-3, 3} {
			n := new(big.Int).Add(toBig(u), big.NewInt(d))
			n.Mod(n, bigPrime)
			if secret, ok := Shared(k, fromBig(n)); !ok || secret == [32]byte{} {
				t.Errorf("Shared with %v: %x, %v", n, secret, ok)
			}
		}
	}
}

// P2.3

func TestEitherOrder(t *testing.T) {
	l := fewKeys()
	for _, u := range points() {
		for i, a := range l {
			b := l[(i+1)%len(l)]
			check(t, "Times of both keys", Times(a, Times(b, u)), Times(b, Times(a, u)))
		}
	}
}

func TestSharedOfEither(t *testing.T) {
	l := append(fewKeys(), drawn(9, 6)...)
	for _, a := range l {
		for _, b := range l {
			want, ok := Shared(a, Public(b))
			if !ok {
				t.Errorf("Shared of %x and %x is 0", a, b)
			}
			checkShared(t, "Shared the other way", b, Public(a), want, true)
		}
	}
}

func TestHighestBitOfPoint(t *testing.T) {
	for _, k := range fewKeys() {
		for _, u := range points() {
			want := Times(k, u)
			check(t, "Times with the other highest bit", Times(k, withTop(u)), want)
			checkShared(t, "Shared with the other highest bit", k, withTop(u), want, want != [32]byte{})
		}
	}
}

func TestFiveBitsOfKey(t *testing.T) {
	for _, k := range fewKeys() {
		want, public := Times(k, [32]byte{5}), Public(k)
		for set := range 32 {
			other := k
			other[0] = k[0]&^7 | byte(set&7)
			other[31] = k[31]&^0xC0 | byte(set>>3<<6)
			check(t, "Times with other bits that Clamp sets", Times(other, [32]byte{5}), want)
			check(t, "Public with other bits that Clamp sets", Public(other), public)
		}
	}
}

// Below 2^255 there is room for p more in the elements 0 to 18 alone.
func TestPrimeMoreInPoint(t *testing.T) {
	for _, k := range fewKeys() {
		for n := range byte(19) {
			u := [32]byte{n}
			check(t, "Times with p more", Times(k, plusPrime(u)), Times(k, u))
			check(t, "Times with p more and the highest bit", Times(k, withTop(plusPrime(u))), Times(k, u))
		}
	}
}

// From 19 on, p more reaches the highest bit, which is put to 0 ahead of the rest by p: what is left is 19 less.
func TestPrimeMoreAtHighestBit(t *testing.T) {
	for _, k := range fewKeys() {
		for n := byte(19); n < 60; n++ {
			check(t, "Times with p more, from 19 on", Times(k, plusPrime([32]byte{n})), Times(k, [32]byte{n - 19}))
		}
	}
}
