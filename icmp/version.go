package icmp

import "adit/api"

// version is what the two versions have each in its own way.
type version struct {
	proto          int
	half           byte // the first half byte of a packet
	head, width    int  // bytes of a packet's header, which ends by Dst, and of an address
	least          int  // the least MTU that a path has
	request, reply int  // the Types of echoes
	problems       [NoProto + 1]problem
}

// problem is what an error message says of its kind; of TooBig the mtu is the Rest.
type problem struct {
	typ, code int
	rest      uint32
}

var version4 = version{
	proto: api.ProtoICMP, half: 4, head: 20, width: 4, least: api.MinMTU4, request: 8, reply: 0,
	problems: [NoProto + 1]problem{
		NoPort:  {typ: 3, code: 3},
		NoRoute: {typ: 3, code: 1},
		TooOld:  {typ: 11, code: 0},
		TooBig:  {typ: 3, code: 4},
		TooLate: {typ: 11, code: 1},
		NoProto: {typ: 3, code: 2},
	},
}

var version6 = version{
	proto: api.ProtoICMP6, half: 6, head: 40, width: 16, least: api.MinMTU6, request: 128, reply: 129,
	problems: [NoProto + 1]problem{
		NoPort:  {typ: 1, code: 4},
		NoRoute: {typ: 1, code: 0},
		TooOld:  {typ: 3, code: 0},
		TooBig:  {typ: 2, code: 0},
		TooLate: {typ: 3, code: 1},
		NoProto: {typ: 4, code: 1, rest: 6},
	},
}

// errors4 are the Types of error messages of version 4; of version 6 they are all those below info6.
var errors4 = [...]byte{3, 4, 5, 11, 12}

const info6 = 128

func versionOf(a api.Addr) version {
	if a.V6 {
		return version6
	}
	return version4
}

func isKind(kind int) bool { return kind >= NoPort && kind <= NoProto }

// isError tells whether a Type of a version is that of an error message.
func isError(v6 bool, typ byte) bool {
	if v6 {
		return typ < info6
	}
	for _, other := range errors4 {
		if typ == other {
			return true
		}
	}
	return false
}
