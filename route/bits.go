package route

import "adit/api"

// Where the things of a version stand: those of version 4 come first.
const (
	version4 = 0
	version6 = 1
)

// version is which of the two an address is of.
func version(a api.Addr) int {
	if a.V6 {
		return version6
	}
	return version4
}

// isAddr tells whether an address may be.
func isAddr(a api.Addr) bool {
	return a.V6 || [12]byte(a.B[4:]) == [12]byte{}
}

// widest is how many bits an address of this version has.
func widest(a api.Addr) int {
	if a.V6 {
		return 128
	}
	return 32
}

// bit is the one of an address that stands behind so many others.
func bit(a api.Addr, behind int) int {
	return int(a.B[behind/8]>>(7-behind%8)) & 1
}

// longer is a prefix with one more bit.
func longer(p api.Prefix, last int) api.Prefix {
	p.Addr.B[p.Bits/8] |= byte(last) << (7 - p.Bits%8)
	p.Bits++
	return p
}
