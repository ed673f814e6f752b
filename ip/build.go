package ip

import (
	"slices"

	"adit/api"
	"adit/wire"
)

// bytes4 are the bytes of a packet of version 4 that may be and fits.
func bytes4(p api.Packet) string {
	size := headSize(p)
	ahead := put(4<<4|size/four, 1) + put(p.Class, 1) + put(size+len(p.Payload), 2) +
		put(p.ID, 2) + put(p.Offset/eight|bit(p.More, more4)|bit(p.Still, still4), 2) +
		put(p.Hop, 1) + put(p.Proto, 1)
	behind := wire.Bytes(p.Src) + wire.Bytes(p.Dst) + p.Options
	return ahead + sumOf(ahead, behind) + behind + p.Payload
}

// sumOf is the checksum between two parts of a header of version 4: a 0 in its place would add nothing.
func sumOf(ahead, behind string) string { return put(wire.Sum(ahead, behind), sumSize) }

// bytes6 are the bytes of a packet of version 6 that may be and fits. Headers are laid from the last one on, since each says the kind of the one behind it.
func bytes6(p api.Packet) string {
	next, heads := p.Proto, ""
	if p.Cut {
		next, heads = api.ProtoFrag, cutBytes(p)
	}
	for _, ext := range slices.Backward(p.Exts) {
		next, heads = ext.Kind, extBytes(ext, next)+heads
	}
	return put(6<<28|p.Class<<20|p.Flow, 4) + put(len(heads)+len(p.Payload), 2) +
		put(next, 1) + put(p.Hop, 1) + wire.Bytes(p.Src) + wire.Bytes(p.Dst) + heads + p.Payload
}

func extBytes(ext api.Ext, next int) string {
	eights := (extHead + len(ext.Body)) / eight
	return put(next, 1) + put(eights-1, 1) + ext.Body
}

func cutBytes(p api.Packet) string {
	return put(p.Proto, 1) + put(0, 1) + put(p.Offset|bit(p.More, more6), 2) + put(p.ID, 4)
}

func put(n, size int) string { return wire.Put(uint64(n), size) }

// bit is the value of a bit, if it is set.
func bit(set bool, value int) int {
	if set {
		return value
	}
	return 0
}
