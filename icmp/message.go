package icmp

import (
	"strings"

	"adit/api"
	"adit/ip"
	"adit/wire"
)

const (
	sumPlace  = 2 // of the checksum
	sumSize   = 2
	restPlace = 4
	restSize  = 4
	headSize  = 8 // bytes ahead of Body
	mostBody  = 65507
	mostByte  = 1<<8 - 1
	mostMTU   = 1<<16 - 1
	ownHop    = 64   // of each packet that is told
	quoteRest = 8    // bytes behind the header of version 4 that an error message has
	quoteAll6 = 1232 // bytes of version 6: the packet has MinMTU6 then, which every path takes
)

func upTo(n, most int) bool { return n >= 0 && n <= most }

// mayTalk tells whether there may be a message from one to the other.
func mayTalk(src, dst api.Addr) bool {
	return wire.Valid(src) && wire.Valid(dst) && src.V6 == dst.V6
}

// isOne tells whether an address is that of one host.
func isOne(a api.Addr) bool { return wire.Valid(a) && !wire.None(a) && !wire.Group(a) }

// laid are the bytes of a message: what stands ahead of the checksum, that, and what stands behind.
func laid(src, dst api.Addr, ahead string, behind ...string) string {
	rest := strings.Join(behind, "")
	// the checksum's own 0 counts in the size alone: it adds nothing to the sum
	sum := wire.Sum(sumHead(src, dst, len(ahead)+sumSize+len(rest)), ahead, rest)
	return ahead + wire.Put(uint64(sum), sumSize) + rest
}

// sumHead is what the checksum of a message of this size has ahead.
func sumHead(src, dst api.Addr, size int) string {
	if !src.V6 {
		return ""
	}
	return wire.Pseudo(src, dst, api.ProtoICMP6, size)
}

// messageOf is the message of a packet that has a whole one.
func messageOf(p api.Packet) (api.Message, bool) {
	if !ip.Right(p) || p.More || p.Offset != 0 || p.Proto != versionOf(p.Src).proto {
		return api.Message{}, false
	}
	m, errno := Parse(p.Src, p.Dst, p.Payload)
	return m, errno == api.OK
}

// packetOf is a packet of a message, which is one that may be and fits.
func packetOf(src, dst api.Addr, m api.Message) api.Packet {
	payload, _ := Build(src, dst, m)
	return api.Packet{Src: src, Dst: dst, Proto: versionOf(src).proto, Hop: ownHop, Payload: payload}
}

// mayBeAnswered tells whether a packet, if it may be and fits, may be answered with an error message: so that none goes to many, and none answers another one.
func mayBeAnswered(p api.Packet) bool {
	if p.Offset > 0 || !isOne(p.Src) || wire.Group(p.Dst) {
		return false
	}
	if p.Proto != versionOf(p.Src).proto {
		return true
	}
	return p.Payload != "" && !isError(p.Src.V6, p.Payload[0])
}

// quoted is what an error message has of a packet; false, if it may not be or does not fit.
func quoted(p api.Packet) (string, bool) {
	bytes, errno := ip.Build(p)
	if errno != api.OK {
		return "", false
	}
	most := quoteAll6
	if !p.Src.V6 {
		most = len(bytes) - len(p.Payload) + quoteRest
	}
	return bytes[:min(most, len(bytes))], true
}

// sentTo is the address to which a packet was sent, of which these are the first bytes.
func sentTo(b string, v version) (api.Addr, bool) {
	if len(b) < v.head || b[0]>>4 != v.half {
		return api.Addr{}, false
	}
	dst, errno := wire.From(b[v.head-v.width : v.head])
	return dst, errno == api.OK
}
