package field

import "math/bits"

// No step here branches on a number's value: private keys go through them.

func load(a [32]byte) limbs {
	return limbs{word(a[:8]), word(a[8:16]), word(a[16:24]), word(a[24:])}
}

func store(x limbs) [32]byte {
	x = least(x)
	var a [32]byte
	for i := range 4 {
		putWord(a[8*i:8*i+8], x[i])
	}
	return a
}

// word and putWord have no loop, so that a word goes in one step: byte by byte, it would take longer than the sum or the product of it.
func word(b []byte) uint64 {
	return uint64(b[0]) | uint64(b[1])<<8 | uint64(b[2])<<16 | uint64(b[3])<<24 |
		uint64(b[4])<<32 | uint64(b[5])<<40 | uint64(b[6])<<48 | uint64(b[7])<<56
}

func putWord(b []byte, x uint64) {
	b[0], b[1], b[2], b[3] = byte(x), byte(x>>8), byte(x>>16), byte(x>>24)
	b[4], b[5], b[6], b[7] = byte(x>>32), byte(x>>40), byte(x>>48), byte(x>>56)
}

// least is the number below p that stands for the same element.
func least(x limbs) limbs {
	top := x[3] >> 63
	x[3] &= low63
	x, _ = plusWord(x, 19*top)
	// Now x is less than p + 38, and reaches 2^255 with 19 more just where it is p or more.
	reach, _ := plusWord(x, 19)
	x, _ = plusWord(x, 19*(reach[3]>>63))
	x[3] &= low63
	return x
}

// opposite is p - x, for an x of at most p.
func opposite(x limbs) limbs {
	var borrow uint64
	for i := range 4 {
		x[i], borrow = bits.Sub64(prime[i], x[i], borrow)
	}
	return x
}

func plus(x, y limbs) limbs {
	var carry uint64
	for i := range 4 {
		x[i], carry = bits.Add64(x[i], y[i], carry)
	}
	return fold(x, carry)
}

func times(x, y limbs) limbs {
	var wide [8]uint64
	for i := range 4 {
		var carry uint64
		for j := range 4 {
			wide[i+j], carry = plusProduct(wide[i+j], carry, x[i], y[j])
		}
		wide[i+4] = carry
	}
	// 2^256 stands for 38, so the upper half counts 38 times.
	var low limbs
	var carry uint64
	for i := range 4 {
		low[i], carry = plusProduct(wide[i], carry, wide[i+4], 38)
	}
	return fold(low, carry)
}

// fold is x with a carry of at most 38 beyond 2^256 brought back.
func fold(x limbs, carry uint64) limbs {
	x, again := plusWord(x, 38*carry)
	// If this carried, x is small by now: it can't carry once more.
	x, _ = plusWord(x, 38*again)
	return x
}

func plusWord(x limbs, n uint64) (limbs, uint64) {
	for i := range 4 {
		x[i], n = bits.Add64(x[i], n, 0)
	}
	return x, n
}

// plusProduct is a + b + x*y as its low and its high word: the greatest that it can be just fits.
func plusProduct(a, b, x, y uint64) (uint64, uint64) {
	high, low := bits.Mul64(x, y)
	low, carry := bits.Add64(low, a, 0)
	high += carry
	low, carry = bits.Add64(low, b, 0)
	return low, high + carry
}
