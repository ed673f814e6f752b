package aead

import (
	"adit/chacha"
	"adit/poly"
)

const (
	markSize  = 16
	blockSize = 16 // of those that the mark is made by
)

// zeros are a whole block, more than any part lacks.
const zeros = "\x00\x00\x00\x00\x00\x00\x00\x00\x00\x00\x00\x00\x00\x00\x00\x00"

// markOf is the mark of parts: each of them filled up to whole blocks, and
// their lengths behind all of them, so that no byte may move from one to another.
func markOf(key [32]byte, nonce [12]byte, parts ...string) [markSize]byte {
	var pieces []string
	for _, part := range parts {
		pieces = append(pieces, part, filling(part))
	}
	for _, part := range parts {
		length := lowestFirst(uint64(len(part)))
		pieces = append(pieces, string(length[:]))
	}
	return poly.Tag(keyOfMark(key, nonce), pieces...)
}

// keyOfMark is a key for one use: as long as no nonce comes twice, neither does it.
func keyOfMark(key [32]byte, nonce [12]byte) [32]byte {
	block := chacha.Block(key, 0, nonce)
	return [32]byte(block[:32])
}

// filling is as many bytes 0 as bring a part to whole blocks.
func filling(part string) string {
	over := len(part) % blockSize
	if over == 0 {
		return ""
	}
	return zeros[over:]
}

// lowestFirst are the eight bytes of a number.
func lowestFirst(n uint64) [8]byte {
	var out [8]byte
	for i := range out {
		out[i] = byte(n >> (8 * i))
	}
	return out
}
