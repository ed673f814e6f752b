package blake

// blockSize is the number of a block's bytes.
const blockSize = 64

// hash is one that is being made.
type hash struct {
	state state
	taken uint64          // the bytes of the blocks so far
	block [blockSize]byte // the one that is not yet taken, its first held bytes
	held  int
}

// begun is a hash of nothing yet, of 1 to 32 bytes by a key of 0 to 32.
func begun(size int, key string) *hash {
	h := &hash{state: firstState(size, len(key))}
	if key != "" {
		copy(h.block[:], key)
		h.held = blockSize
	}
	return h
}

// add goes on by pieces, and keeps the last block, whole or not.
func (h *hash) add(pieces ...string) {
	for _, piece := range pieces {
		for len(piece) > 0 {
			// Only now is it known that the whole block is not the last one.
			if h.held == blockSize {
				h.take(false)
			}
			n := copy(h.block[h.held:], piece)
			piece = piece[n:]
			h.held += n
		}
	}
}

// end takes the last block and tells all 32 bytes.
func (h *hash) end() [32]byte {
	clear(h.block[h.held:])
	h.take(true)
	return h.state.bytes()
}

// take takes the block, of which the filling is not counted.
func (h *hash) take(last bool) {
	h.taken += uint64(h.held)
	h.state = h.state.behind(h.block, h.taken, last)
	h.held = 0
}
