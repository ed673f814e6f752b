package route

import (
	"iter"

	"adit/api"
)

// node is a place in a trie, which the bits of a prefix lead to, a branch a bit. It is not changed once it stands in a table: so what All told goes over the prefixes as they stood.
type node[T any] struct {
	branches [2]*node[T]
	there    bool // the prefix of just these bits was put
	owner    T    // nothing, if it was not
}

// path goes down by the bits of a prefix, as far as there are nodes: how many bits lead to each, and the node. There is none for a prefix that may not be.
func (t *Table[T]) path(p api.Prefix) iter.Seq2[int, *node[T]] {
	return func(yield func(int, *node[T]) bool) {
		if t == nil || !IsPrefix(p) {
			return
		}
		n := t.roots[version(p.Addr)]
		for bits := 0; n != nil && yield(bits, n) && bits < p.Bits; bits++ {
			n = n.branches[bit(p.Addr, bits)]
		}
	}
}

// at is whose a prefix itself is, whether it is there.
func (t *Table[T]) at(p api.Prefix) (T, bool) {
	for bits, n := range t.path(p) {
		if bits == p.Bits {
			return n.owner, n.there
		}
	}
	var none T
	return none, false
}

// with is what stands in the place of n, which so many bits lead to, when p is owner's.
func (n *node[T]) with(p api.Prefix, bits int, owner T) *node[T] {
	var made node[T]
	if n != nil {
		made = *n
	}
	if bits == p.Bits {
		made.there, made.owner = true, owner
		return &made
	}
	which := bit(p.Addr, bits)
	made.branches[which] = made.branches[which].with(p, bits+1, owner)
	return &made
}

// without is what stands in the place of n, which so many bits lead to, when p, which is there, goes: nil, where nothing is left.
func (n *node[T]) without(p api.Prefix, bits int) *node[T] {
	made := *n
	if bits == p.Bits {
		var none T
		made.there, made.owner = false, none
	} else {
		which := bit(p.Addr, bits)
		made.branches[which] = made.branches[which].without(p, bits+1)
	}
	if !made.there && made.branches == [2]*node[T]{} {
		return nil
	}
	return &made
}

// all goes over the prefixes of n, which the bits of p lead to. A prefix stands ahead of those that it has, and the branch of bits 0 ahead of the other one: that is the order by bytes, then by Bits.
func (n *node[T]) all(p api.Prefix) iter.Seq2[api.Prefix, T] {
	return func(yield func(api.Prefix, T) bool) {
		if n == nil || n.there && !yield(p, n.owner) {
			return
		}
		for which, branch := range n.branches {
			if branch == nil {
				continue // p may have all its bits: then there is no longer one
			}
			for found, owner := range branch.all(longer(p, which)) {
				if !yield(found, owner) {
					return
				}
			}
		}
	}
}
