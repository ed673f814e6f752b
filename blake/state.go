package blake

import "math/bits"

// beginnings are what a state begins with, and the second half of the words that a block is mixed into.
var beginnings = [8]uint32{
	0x6a09e667, 0xbb67ae85, 0x3c6ef372, 0xa54ff53a,
	0x510e527f, 0x9b05688c, 0x1f83d9ab, 0x5be0cd19,
}

// orders tell, for each round, in which order a block's words come.
var orders = [10][16]uint8{
	{0, 1, 2, 3, 4, 5, 6, 7, 8, 9, 10, 11, 12, 13, 14, 15},
	{14, 10, 4, 8, 9, 15, 13, 6, 1, 12, 0, 2, 11, 7, 5, 3},
	{11, 8, 12, 0, 5, 2, 15, 13, 10, 14, 3, 6, 7, 1, 9, 4},
	{7, 9, 3, 1, 13, 12, 11, 14, 2, 6, 5, 10, 4, 0, 15, 8},
	{9, 0, 5, 7, 2, 4, 10, 15, 14, 1, 11, 12, 6, 8, 3, 13},
	{2, 12, 6, 10, 0, 11, 8, 3, 4, 13, 7, 5, 15, 14, 1, 9},
	{12, 5, 1, 15, 14, 13, 4, 10, 0, 7, 6, 3, 9, 2, 8, 11},
	{13, 11, 7, 14, 12, 1, 3, 9, 5, 0, 15, 4, 8, 6, 2, 10},
	{6, 15, 14, 9, 11, 3, 0, 8, 12, 2, 13, 7, 1, 4, 10, 5},
	{10, 2, 8, 4, 7, 6, 1, 5, 15, 11, 9, 14, 3, 12, 13, 0},
}

// state is what the blocks are taken into.
type state [8]uint32

// words are a block's, or those that it is mixed into.
type words [16]uint32

// firstState says of which size the hash is and how long its key, so that no two of these begin alike.
func firstState(size, keyLength int) state {
	var s state
	for i := range s {
		s[i] = beginnings[i]
	}
	s[0] ^= 0x01010000 ^ uint32(keyLength)<<8 ^ uint32(size)
	return s
}

// behind is the state behind one block more, with which so many bytes are taken.
func (s state) behind(block [blockSize]byte, taken uint64, last bool) state {
	var v words
	for i := range s {
		v[i], v[8+i] = s[i], beginnings[i]
	}
	v[12] ^= uint32(taken)
	v[13] ^= uint32(taken >> 32)
	if last {
		v[14] = ^v[14]
	}
	m := wordsOf(block)
	for i := range len(orders) {
		v = v.round(m.inOrder(i))
	}
	for i := range s {
		s[i] ^= v[i] ^ v[8+i]
	}
	return s
}

// inOrder are a block's words as round i takes them.
func (w words) inOrder(i int) words {
	var out words
	for j := range out {
		out[j] = w[orders[i][j]]
	}
	return out
}

// round mixes sixteen words in: by the columns, then by the diagonals.
func (w words) round(m words) words {
	w[0], w[4], w[8], w[12] = mixed(w[0], w[4], w[8], w[12], m[0], m[1])
	w[1], w[5], w[9], w[13] = mixed(w[1], w[5], w[9], w[13], m[2], m[3])
	w[2], w[6], w[10], w[14] = mixed(w[2], w[6], w[10], w[14], m[4], m[5])
	w[3], w[7], w[11], w[15] = mixed(w[3], w[7], w[11], w[15], m[6], m[7])
	w[0], w[5], w[10], w[15] = mixed(w[0], w[5], w[10], w[15], m[8], m[9])
	w[1], w[6], w[11], w[12] = mixed(w[1], w[6], w[11], w[12], m[10], m[11])
	w[2], w[7], w[8], w[13] = mixed(w[2], w[7], w[8], w[13], m[12], m[13])
	w[3], w[4], w[9], w[14] = mixed(w[3], w[4], w[9], w[14], m[14], m[15])
	return w
}

// mixed are four words with two more mixed in.
func mixed(a, b, c, d, x, y uint32) (uint32, uint32, uint32, uint32) {
	a += b + x
	d = bits.RotateLeft32(d^a, -16)
	c += d
	b = bits.RotateLeft32(b^c, -12)
	a += b + y
	d = bits.RotateLeft32(d^a, -8)
	c += d
	b = bits.RotateLeft32(b^c, -7)
	return a, b, c, d
}

// wordsOf are a block's words, the lowest byte of each first.
func wordsOf(block [blockSize]byte) words {
	var w words
	for i := range w {
		for j := range 4 {
			w[i] |= uint32(block[4*i+j]) << (8 * j)
		}
	}
	return w
}

// bytes are the state's, the lowest of each word first.
func (s state) bytes() [32]byte {
	var out [32]byte
	for i := range out {
		out[i] = byte(s[i/4] >> (8 * (i % 4)))
	}
	return out
}
