package chacha

// letters are the square's first four words.
const letters = "expand 32-byte k"

// counterWord is the place of the counter in the square of a block.
const counterWord = 12

// square is what the rounds work on.
type square [16]uint32

// keySquare is the square of a key, its last four words still 0.
func keySquare(key [32]byte) square {
	var s square
	for i := range 4 {
		s[i] = wordAt([]byte(letters), i)
	}
	for i := range 8 {
		s[4+i] = wordAt(key[:], i)
	}
	return s
}

// streamSquare is the square that a block of the key stream is made of.
func streamSquare(key [32]byte, counter uint32, nonce [12]byte) square {
	s := keySquare(key)
	s[counterWord] = counter
	for i := range 3 {
		s[counterWord+1+i] = wordAt(nonce[:], i)
	}
	return s
}

// ahead is the square n blocks further on.
func (s square) ahead(n uint32) square {
	s[counterWord] += n
	return s
}

// block is the square behind its rounds, with what it was added so that the rounds can't be gone back.
func (s square) block() [blockSize]byte {
	mixed := s.rounds()
	var block [blockSize]byte
	for i := range len(s) {
		putWord(block[:], i, mixed[i]+s[i])
	}
	return block
}

// rounds is the square behind twenty rounds: ten times the columns, then the diagonals.
func (s square) rounds() square {
	for range 10 {
		s[0], s[4], s[8], s[12] = Quarter(s[0], s[4], s[8], s[12])
		s[1], s[5], s[9], s[13] = Quarter(s[1], s[5], s[9], s[13])
		s[2], s[6], s[10], s[14] = Quarter(s[2], s[6], s[10], s[14])
		s[3], s[7], s[11], s[15] = Quarter(s[3], s[7], s[11], s[15])
		s[0], s[5], s[10], s[15] = Quarter(s[0], s[5], s[10], s[15])
		s[1], s[6], s[11], s[12] = Quarter(s[1], s[6], s[11], s[12])
		s[2], s[7], s[8], s[13] = Quarter(s[2], s[7], s[8], s[13])
		s[3], s[4], s[9], s[14] = Quarter(s[3], s[4], s[9], s[14])
	}
	return s
}

// wordAt is word i of some bytes, the lowest byte first.
func wordAt(b []byte, i int) uint32 {
	b = b[4*i : 4*i+4]
	return uint32(b[0]) | uint32(b[1])<<8 | uint32(b[2])<<16 | uint32(b[3])<<24
}

// putWord lays word i into some bytes, the lowest byte first.
func putWord(b []byte, i int, w uint32) {
	b = b[4*i : 4*i+4]
	b[0], b[1], b[2], b[3] = byte(w), byte(w>>8), byte(w>>16), byte(w>>24)
}
