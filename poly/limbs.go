package poly

import "math/bits"

// No step here branches on a number's value: keys go through them.

// limbs are a number in digits of 26 bits, the lowest first: a product of two digits leaves room in its word to add others up before anything is carried.
type limbs [5]uint64

const (
	limbBits = 26
	lowBits  = 1<<limbBits - 1
)

// The bits of r that may be set, in the key's first and second eight bytes.
const (
	lowOfR  = 0x0ffffffc0fffffff
	highOfR = 0x0ffffffc0ffffffc
)

// limbsOf is low + high * 2^64 + top * 2^128, for a top below 4.
func limbsOf(low, high, top uint64) limbs {
	return limbs{
		low & lowBits,
		low >> 26 & lowBits,
		(low>>52 | high<<12) & lowBits,
		high >> 14 & lowBits,
		high>>40 | top<<24,
	}
}

// numberOf is the number of a block of at most 16 bytes.
func numberOf(block []byte) limbs {
	var marked [blockSize + 1]byte
	copy(marked[:], block)
	marked[len(block)] = 1
	return limbsOf(word(marked[:8]), word(marked[8:16]), uint64(marked[16]))
}

func plus(x, y limbs) limbs {
	for i := range x {
		x[i] += y[i]
	}
	return x
}

// times stands for x*y modulo 2^130 - 5, for digits of at most 2^28 and of at most 2^26: each of the answer is below 2^26, but the second one, which may pass it by 2^12.
func times(x, y limbs) limbs {
	var wide [10]uint64
	for i := range 5 {
		for j := range 5 {
			wide[i+j] += x[i] * y[j]
		}
	}
	// 2^130 stands for 5, so the upper half counts 5 times.
	var low limbs
	for i := range 5 {
		low[i] = wide[i] + 5*wide[i+5]
	}
	low, over := carried(low)
	low[0] += 5 * over
	low[1] += low[0] >> limbBits
	low[0] &= lowBits
	return low
}

// carried is x with all digits below 2^26, and what goes beyond 2^130.
func carried(x limbs) (limbs, uint64) {
	var carry uint64
	for i := range x {
		x[i] += carry
		carry = x[i] >> limbBits
		x[i] &= lowBits
	}
	return x, carry
}

// least is the number below 2^130 - 5 that stands for the same as x, an answer of times.
func least(x limbs) limbs {
	x, over := carried(x)
	// If this went beyond, x is small by now: it can't go beyond once more.
	x[0] += 5 * over
	x, _ = carried(x)
	// Now x is below 2^130, and reaches it with 5 more just where it is 2^130 - 5 or more.
	reach := x
	reach[0] += 5
	_, over = carried(reach)
	x[0] += 5 * over
	x, _ = carried(x)
	return x
}

// mark is x and s added up, modulo 2^128.
func mark(x limbs, s [2]uint64) [16]byte {
	x = least(x)
	low, carry := bits.Add64(x[0]|x[1]<<26|x[2]<<52, s[0], 0)
	high, _ := bits.Add64(x[2]>>12|x[3]<<14|x[4]<<40, s[1], carry)
	var out [16]byte
	putWord(out[:8], low)
	putWord(out[8:], high)
	return out
}

// word is the number of eight bytes, the lowest first.
func word(b []byte) uint64 {
	return uint64(b[0]) | uint64(b[1])<<8 | uint64(b[2])<<16 | uint64(b[3])<<24 |
		uint64(b[4])<<32 | uint64(b[5])<<40 | uint64(b[6])<<48 | uint64(b[7])<<56
}

func putWord(b []byte, x uint64) {
	b[0], b[1], b[2], b[3] = byte(x), byte(x>>8), byte(x>>16), byte(x>>24)
	b[4], b[5], b[6], b[7] = byte(x>>32), byte(x>>40), byte(x>>48), byte(x>>56)
}
