package tunnel

import "adit/api"

const (
	leastSize4 = 20 // bytes of the least header of version 4
	headSize6  = 40 // of the header of version 6
)

// inner is what the tunnel looks at of a packet.
type inner struct {
	source, destination api.Addr
	length              int
}

// innerOf is that of a packet, if it has an inner length.
func innerOf(packet string) (inner, bool) {
	switch {
	case len(packet) >= leastSize4 && packet[0]>>4 == 4:
		length := twoBytes(packet, 2)
		return inner{source: address(packet, 12, 4), destination: address(packet, 16, 4), length: length}, length >= leastSize4
	case len(packet) >= headSize6 && packet[0]>>4 == 6:
		length := headSize6 + twoBytes(packet, 4)
		return inner{source: address(packet, 8, 16), destination: address(packet, 24, 16), length: length}, true
	}
	return inner{}, false
}

// address is the one whose bytes, 4 or 16 of them, stand there.
func address(packet string, place, size int) api.Addr {
	a := api.Addr{V6: size == 16}
	copy(a.B[:], packet[place:place+size])
	return a
}

// twoBytes is the number that stands there, the higher byte first.
func twoBytes(packet string, place int) int {
	return int(packet[place])<<8 | int(packet[place+1])
}

// lowestFirst are so many bytes of a number, the lowest first.
func lowestFirst(number uint64, size int) string {
	b := make([]byte, size)
	for i := range b {
		b[i] = byte(number >> (8 * i))
	}
	return string(b)
}

// numberOf is the number of at most eight bytes, the lowest first.
func numberOf(bytes string) uint64 {
	var number uint64
	for i := range len(bytes) {
		number |= uint64(bytes[i]) << (8 * i)
	}
	return number
}
