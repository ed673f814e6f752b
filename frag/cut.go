package frag

import (
	"slices"

	"adit/api"
	"adit/ip"
)

const (
	eight      = 8  // Offsets are counted in eights
	leastMTU4  = 68 // the longest header, and eight bytes behind it
	mostID     = 1<<32 - 1
	mostOffset = 1<<16 - eight
	headSize6  = 40 // bytes of version 6 that its size doesn't count
)

// mayCut tells whether a packet may be cut so: pieces of version 6 have the header that Cut adds once.
func mayCut(p api.Packet, mtu, id int) bool {
	least := leastMTU4
	if p.Src.V6 {
		least = api.MinMTU6
	}
	return ip.Right(p) && mtu >= least && id >= 0 && id <= mostID && !p.Cut
}

// fits tells whether the size of a packet that may be can be told in its header.
func fits(p api.Packet) bool {
	counted := ip.Size(p)
	if p.Src.V6 {
		counted -= headSize6
	}
	return counted <= api.MaxPacket
}

// cut are the pieces of a packet that is longer than mtu: so it has a Payload, wherever there is room behind its header.
func cut(p api.Packet, mtu, id int) ([]api.Packet, api.Errno) {
	head := pieceHead(p, id)
	room := max(mtu-ip.Size(head), 0) / eight * eight
	if room == 0 || p.Offset+(len(p.Payload)-1)/room*room > mostOffset {
		return nil, api.ErrBig
	}
	var pieces []api.Packet
	for at := 0; at < len(p.Payload); at += room {
		end := min(at+room, len(p.Payload))
		piece := apart(head)
		piece.Offset = p.Offset + at
		piece.More = p.More || end < len(p.Payload)
		piece.Payload = p.Payload[at:end]
		pieces = append(pieces, piece)
	}
	return pieces, api.OK
}

// pieceHead is a packet without Payload, whose header is as long as each piece's.
func pieceHead(p api.Packet, id int) api.Packet {
	p.Payload = ""
	if p.Src.V6 {
		p.Cut, p.ID = true, id
	}
	return p
}

// uncut is a packet as it was ahead of being cut: of version 4 it had a number then too.
func uncut(p api.Packet) api.Packet {
	p.Offset, p.More, p.Cut = 0, false, false
	if p.Src.V6 {
		p.ID = 0
	}
	return apart(p)
}

// apart is the same packet, which shares no list with it.
func apart(p api.Packet) api.Packet {
	p.Exts = slices.Clone(p.Exts)
	return p
}
