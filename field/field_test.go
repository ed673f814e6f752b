package field

import (
	"math"
	"math/big"
	"math/rand/v2"
	"slices"
	"testing"
)

// The tests hold the package against math/big, which shares no code with it.

var (
	bigPrime = new(big.Int).Sub(new(big.Int).Lsh(big.NewInt(1), 255), big.NewInt(19))
	bigZero  = big.NewInt(0)
	bigOne   = big.NewInt(1)
)

func toBig(a [32]byte) *big.Int {
	slices.Reverse(a[:])
	return new(big.Int).SetBytes(a[:])
}

func fromBig(n *big.Int) [32]byte {
	var a [32]byte
	n.FillBytes(a[:])
	slices.Reverse(a[:])
	return a
}

// element is the answer that the document asks for, of any whole number.
func element(n *big.Int) [32]byte { return fromBig(new(big.Int).Mod(n, bigPrime)) }

// beside are the numbers of 32 bytes within some steps of n.
func beside(n *big.Int, steps int64) [][32]byte {
	var l [][32]byte
	for d := -steps; d <= steps; d++ {
		m := new(big.Int).Add(n, big.NewInt(d))
		if m.Sign() >= 0 && m.BitLen() <= 256 {
			l = append(l, fromBig(m))
		}
	}
	return l
}

// edges are the numbers around 0, p, 2p, 2^255 and 2^256, and around the powers of two in between.
func edges() [][32]byte {
	l := beside(bigZero, 2)
	for _, bit := range []uint{8, 64, 128, 192, 254, 255, 256} {
		l = append(l, beside(new(big.Int).Lsh(bigOne, bit), 1)...)
	}
	l = append(l, beside(bigPrime, 2)...)
	l = append(l, beside(new(big.Int).Lsh(bigPrime, 1), 2)...)
	return l
}

func drawn(seed uint64, n int) [][32]byte {
	source := rand.New(rand.NewPCG(seed, 1))
	l := make([][32]byte, n)
	for i := range l {
		for j := range l[i] {
			l[i][j] = byte(source.Uint32())
		}
	}
	return l
}

// unzero are those of a list that do not stand for 0: a product with them all still tells something.
func unzero(l [][32]byte) [][32]byte {
	return slices.DeleteFunc(l, func(a [32]byte) bool { return element(toBig(a)) == [32]byte{} })
}

func numbers() [][32]byte { return append(edges(), drawn(1, 40)...) }

func full(first, last byte) [32]byte {
	var a [32]byte
	for i := range a {
		a[i] = 255
	}
	a[0], a[31] = first, last
	return a
}

func check(t *testing.T, what string, got, want [32]byte) {
	t.Helper()
	if got != want {
		t.Errorf("%s: %x, want %x", what, got, want)
	}
}

func TestExamples(t *testing.T) {
	check(t, "Of(0)", Of(0), [32]byte{})
	check(t, "Of(19)", Of(19), [32]byte{0x13})
	check(t, "Of(-1)", Of(-1), full(0xEC, 0x7F))
	check(t, "Of(256)", Of(256), [32]byte{0, 1})
	check(t, "Canon of p", Canon(full(0xED, 0x7F)), [32]byte{})
	check(t, "Canon of 2^256 - 1", Canon(full(0xFF, 0xFF)), [32]byte{0x25})
	check(t, "Add(-1, 3)", Add(Of(-1), Of(3)), [32]byte{2})
	check(t, "Add()", Add(), [32]byte{})
	check(t, "Mul()", Mul(), [32]byte{1})
	check(t, "Mul(-1, -1)", Mul(Of(-1), Of(-1)), [32]byte{1})
	check(t, "Mul(2^254, 4)", Mul([32]byte{31: 0x40}, [32]byte{4}), [32]byte{0x26})
	check(t, "Sub(1, 2)", Sub(Of(1), Of(2)), Of(-1))
	check(t, "Inv(2)", Inv(Of(2)), full(0xF7, 0x3F))
	check(t, "Inv(0)", Inv([32]byte{}), [32]byte{})
	check(t, "Pow(2, 255)", Pow(Of(2), [32]byte{255}), [32]byte{0x13})
	check(t, "Pow(0, 0)", Pow([32]byte{}, [32]byte{}), [32]byte{1})
	check(t, "Pow(0, 1)", Pow([32]byte{}, [32]byte{1}), [32]byte{})
}

// P1.1

func TestCanon(t *testing.T) {
	l := append(numbers(), drawn(2, 2000)...)
	l = append(l, beside(bigPrime, 50)...)
	l = append(l, beside(new(big.Int).Lsh(bigPrime, 1), 50)...)
	for _, a := range l {
		got := Canon(a)
		if want := element(toBig(a)); got != want {
			t.Errorf("Canon(%x): %x, want %x", a, got, want)
		}
		if Canon(got) != got {
			t.Errorf("Canon(%x) is not its own element", got)
		}
	}
}

func TestOf(t *testing.T) {
	l := []int{math.MinInt, math.MinInt + 1, math.MinInt32, -257, -256, -255, -38, -37, -20, 0, 255, 256, 257, 121665, math.MaxInt32, math.MaxInt - 1, math.MaxInt}
	for n := -20; n <= 20; n++ {
		l = append(l, n)
	}
	for _, n := range l {
		if got, want := Of(n), element(big.NewInt(int64(n))); got != want {
			t.Errorf("Of(%d): %x, want %x", n, got, want)
		}
	}
}

func TestSame(t *testing.T) {
	for _, a := range numbers() {
		for _, b := range numbers() {
			if got, want := Same(a, b), element(toBig(a)) == element(toBig(b)); got != want {
				t.Errorf("Same(%x, %x): %v", a, b, got)
			}
		}
	}
	// One differing bit, wherever it stands, makes another element of a number that is small enough.
	for bit := range 255 {
		a := Of(5)
		a[bit/8] ^= 1 << (bit % 8)
		if Same(a, Of(5)) {
			t.Errorf("Same in spite of bit %d", bit)
		}
	}
}

// P1.2

func bigSum(l [][32]byte) *big.Int {
	n := new(big.Int)
	for _, a := range l {
		n.Add(n, toBig(a))
	}
	return n
}

func bigProduct(l [][32]byte) *big.Int {
	n := big.NewInt(1)
	for _, a := range l {
		n.Mul(n, toBig(a)).Mod(n, bigPrime)
	}
	return n
}

func checkLists(t *testing.T, lists [][][32]byte) {
	t.Helper()
	for _, l := range lists {
		if got, want := Add(l...), element(bigSum(l)); got != want {
			t.Errorf("Add of %d, %x: %x, want %x", len(l), l, got, want)
		}
		if got, want := Mul(l...), element(bigProduct(l)); got != want {
			t.Errorf("Mul of %d, %x: %x, want %x", len(l), l, got, want)
		}
	}
}

func TestOfNoneAndOne(t *testing.T) {
	checkLists(t, [][][32]byte{nil, {}})
	for _, a := range numbers() {
		checkLists(t, [][][32]byte{{a}})
	}
}

func TestPairs(t *testing.T) {
	for _, a := range numbers() {
		for _, b := range numbers() {
			checkLists(t, [][][32]byte{{a, b}})
			got, want := Sub(a, b), element(new(big.Int).Sub(toBig(a), toBig(b)))
			if got != want {
				t.Errorf("Sub(%x, %x): %x, want %x", a, b, got, want)
			}
			if Add(got, b) != Canon(a) {
				t.Errorf("Sub(%x, %x) and the second are not the first", a, b)
			}
		}
	}
}

func TestManyAtOnce(t *testing.T) {
	for n := range 12 {
		checkLists(t, [][][32]byte{drawn(uint64(3+n), n), slices.Repeat([][32]byte{full(255, 255)}, n), slices.Repeat([][32]byte{Of(-1)}, n)})
	}
	checkLists(t, [][][32]byte{edges(), unzero(edges()), unzero(numbers()), drawn(20, 3000), slices.Repeat([][32]byte{full(255, 255)}, 3000)})
}

// The greatest numbers, whose sums and products carry the furthest.
func TestGreatest(t *testing.T) {
	l := beside(new(big.Int).Lsh(bigOne, 256), 100)
	for _, a := range l {
		for _, b := range l {
			checkLists(t, [][][32]byte{{a, b}})
		}
	}
}

// P1.3

func exponents() [][32]byte {
	l := append(beside(bigZero, 3), drawn(4, 5)...)
	l = append(l, beside(bigPrime, 2)...)
	for bit := range uint(256) {
		l = append(l, fromBig(new(big.Int).Lsh(bigOne, bit)))
	}
	return append(l, full(255, 255), full(254, 255))
}

func TestPow(t *testing.T) {
	bases := append(beside(bigZero, 3), beside(bigPrime, 2)...)
	bases = append(bases, full(255, 255), full(255, 127))
	bases = append(bases, drawn(5, 3)...)
	for _, a := range bases {
		for _, e := range exponents() {
			want := element(new(big.Int).Exp(toBig(a), toBig(e), bigPrime))
			if got := Pow(a, e); got != want {
				t.Errorf("Pow(%x, %x): %x, want %x", a, e, got, want)
			}
		}
	}
}

// As an exponent p is not its rest, 0: a power by p is the element itself, one by 0 is 1.
func TestExponentIsNoElement(t *testing.T) {
	for _, a := range numbers() {
		check(t, "Pow(a, p)", Pow(a, fromBig(bigPrime)), Canon(a))
		check(t, "Pow(a, 0)", Pow(a, [32]byte{}), [32]byte{1})
	}
}

func TestInv(t *testing.T) {
	for _, a := range append(numbers(), drawn(6, 200)...) {
		got := Inv(a)
		if Canon(a) == [32]byte{} {
			check(t, "Inv of what stands for 0", got, [32]byte{})
			continue
		}
		want := fromBig(new(big.Int).ModInverse(toBig(a), bigPrime))
		if got != want {
			t.Errorf("Inv(%x): %x, want %x", a, got, want)
		}
		check(t, "a times its inverse", Mul(a, got), [32]byte{1})
	}
}

// P1.4

func TestOrderAndGroups(t *testing.T) {
	for seed := range uint64(50) {
		l := append(drawn(100+seed, 4), unzero(edges())...)
		sum, product := Add(l...), Mul(l...)
		source := rand.New(rand.NewPCG(seed, 2))
		for range 5 {
			source.Shuffle(len(l), func(i, j int) { l[i], l[j] = l[j], l[i] })
			check(t, "a sum in another order", Add(l...), sum)
			check(t, "a product in another order", Mul(l...), product)
			cut := source.IntN(len(l) + 1)
			check(t, "a sum in two groups", Add(Add(l[:cut]...), Add(l[cut:]...)), sum)
			check(t, "a product in two groups", Mul(Mul(l[:cut]...), Mul(l[cut:]...)), product)
		}
	}
}

func TestProductWithSum(t *testing.T) {
	for _, a := range numbers() {
		l := append(drawn(7, 3), a, full(255, 255), Of(-1))
		for i, b := range l {
			c := l[(i+1)%len(l)]
			check(t, "a(b + c)", Mul(a, Add(b, c)), Add(Mul(a, b), Mul(a, c)))
			check(t, "a(b - c)", Mul(a, Sub(b, c)), Sub(Mul(a, b), Mul(a, c)))
		}
	}
}

func TestInvIsPower(t *testing.T) {
	e := fromBig(new(big.Int).Sub(bigPrime, big.NewInt(2)))
	for _, a := range numbers() {
		check(t, "Inv(a)", Inv(a), Pow(a, e))
	}
}

// R3, R4

func TestHandedInStays(t *testing.T) {
	l := unzero(numbers())
	kept := slices.Clone(l)
	sum, product := Add(l...), Mul(l...)
	if !slices.Equal(l, kept) {
		t.Error("a list that was handed in is another one")
	}
	check(t, "the sum again", Add(l...), sum)
	check(t, "the product again", Mul(l...), product)
	clear(l)
	check(t, "the sum of what was kept", Add(kept...), sum)
	check(t, "the product of what was kept", Mul(kept...), product)
}
