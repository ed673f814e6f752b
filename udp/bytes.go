package udp

import (
	"adit/api"
	"adit/wire"
)

const (
	numberSize = 2 // bytes of each number of the header
	srcPlace   = 0
	dstPlace   = 2
	sizePlace  = 4
	sumPlace   = 6
	headSize   = 8 // bytes ahead of Data
	mostData   = 65507
	noSum      = 0     // in the checksum's place: it was not laid
	zeroSum    = 65535 // there for a checksum of 0, which would say that
)

func put(n int) string { return wire.Put(uint64(n), numberSize) }

// number is the one that stands in b at a place that b has.
func number(b string, at int) int {
	n, _ := wire.Get(b, at, numberSize)
	return int(n)
}

func isPort(n int) bool { return n >= 0 && n <= api.LastPort }

// mayTalk tells whether there may be a datagram from one to the other.
func mayTalk(src, dst api.Addr) bool {
	return wire.Valid(src) && wire.Valid(dst) && src.V6 == dst.V6
}

// sumOf is the checksum of a datagram, of which these stand ahead of it and behind.
func sumOf(src, dst api.Addr, ahead, data string) int {
	// the checksum's own 0 counts in the size alone: it adds nothing to the sum
	sum := wire.Sum(wire.Pseudo(src, dst, api.ProtoUDP, headSize+len(data)), ahead, data)
	if sum == noSum {
		return zeroSum
	}
	return sum
}

// hasSum tells whether a datagram has the checksum that it must have: none, in version 4, is right too.
func hasSum(src, dst api.Addr, b string) bool {
	sum := number(b, sumPlace)
	return !src.V6 && sum == noSum || sum == sumOf(src, dst, b[:sumPlace], b[headSize:])
}
