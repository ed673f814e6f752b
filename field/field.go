// Package field is layer 1: see shared/doc/01-field.md.
package field

// limbs is a number of 256 bits, the lowest word first. Steps in between keep any number that stands for the element: only what is told must be the least.
type limbs [4]uint64

// low63 are the bits of the highest word that count less than 2^255.
const low63 = 1<<63 - 1

var prime = limbs{1<<64 - 19, 1<<64 - 1, 1<<64 - 1, low63}

// Canon is a number's rest by p = 2^255 - 19, as 32 bytes, the lowest first.
func Canon(a [32]byte) [32]byte { return store(load(a)) }

// Of is a whole number as an element.
func Of(n int) [32]byte {
	if n < 0 {
		// The least int has no opposite among the ints, but its opposite is right as an unsigned word.
		return store(opposite(limbs{-uint64(n)}))
	}
	return store(limbs{uint64(n)})
}

// Add is the sum of all; of none it is 0.
func Add(l ...[32]byte) [32]byte {
	var sum limbs
	for _, a := range l {
		sum = plus(sum, load(a))
	}
	return store(sum)
}

// Mul is the product of all; of none it is 1.
func Mul(l ...[32]byte) [32]byte {
	if len(l) == 0 {
		return [32]byte{1}
	}
	product := load(l[0])
	for _, a := range l[1:] {
		product = times(product, load(a))
	}
	return store(product)
}

// Sub is a less b.
func Sub(a, b [32]byte) [32]byte {
	return store(plus(load(a), opposite(least(load(b)))))
}

// Pow is a to the power of e, a number of 32 bytes and not an element: its bits are taken as they stand.
func Pow(a, e [32]byte) [32]byte {
	base, power := load(a), limbs{1}
	for i := range 256 {
		bit := 255 - i
		power = times(power, power)
		if e[bit/8]>>(bit%8)&1 == 1 {
			power = times(power, base)
		}
	}
	return store(power)
}

// Inv is what makes 1 with a (of 0: 0): a to the power of p - 2, which is the number of the element -2.
func Inv(a [32]byte) [32]byte { return Pow(a, Of(-2)) }

// Same tells whether two are the same element.
func Same(a, b [32]byte) bool { return Canon(a) == Canon(b) }
