package noise

import "adit/api"

// The sizes of messages: the first two have their marks behind that.
const (
	initiationSize = 116
	responseSize   = 60
	cookieSize     = 64
)

// initiation are the parts of one, the key and the stamp in their boxes.
type initiation struct {
	index      uint32
	ephemeral  [32]byte
	key, stamp string
}

func initiationOf(message string) initiation {
	needForm(message, initiationSize+marksSize, api.Initiation)
	return initiation{
		index:     numberAt(message, 4),
		ephemeral: keyAt(message, 8),
		key:       message[40:88],
		stamp:     message[88:initiationSize],
	}
}

func (m initiation) text() string {
	return lowestFirst(api.Initiation) + lowestFirst(m.index) + string(m.ephemeral[:]) + m.key + m.stamp
}

// response are the parts of one; other is the index of the end that it goes to.
type response struct {
	index, other uint32
	ephemeral    [32]byte
	box          string
}

func responseOf(message string) response {
	needForm(message, responseSize+marksSize, api.Response)
	return response{
		index:     numberAt(message, 4),
		other:     numberAt(message, 8),
		ephemeral: keyAt(message, 12),
		box:       message[44:responseSize],
	}
}

func (m response) text() string {
	return lowestFirst(api.Response) + lowestFirst(m.index) + lowestFirst(m.other) + string(m.ephemeral[:]) + m.box
}

// cookieMessage are the parts of one; other is the index of the end that it goes to.
type cookieMessage struct {
	other uint32
	nonce [24]byte
	box   string
}

func cookieMessageOf(message string) cookieMessage {
	needForm(message, cookieSize, api.CookieBox)
	return cookieMessage{
		other: numberAt(message, 4),
		nonce: [24]byte([]byte(message[8:32])),
		box:   message[32:],
	}
}

func (m cookieMessage) text() string {
	return lowestFirst(api.CookieBox) + lowestFirst(m.other) + string(m.nonce[:]) + m.box
}

// needForm gives up unless a message has so many bytes and is of a kind.
func needForm(message string, size int, kind uint32) {
	need(len(message) == size, api.ErrSize)
	need(numberAt(message, 0) == kind, api.ErrType)
}

// numberAt is the number whose four bytes, the lowest first, stand there.
func numberAt(message string, place int) uint32 {
	var number uint32
	for i := range 4 {
		number |= uint32(message[place+i]) << (8 * i)
	}
	return number
}

// keyAt is the key that stands there.
func keyAt(message string, place int) [32]byte {
	return [32]byte([]byte(message[place : place+32]))
}

// lowestFirst are the four bytes of a number.
func lowestFirst(number uint32) string {
	var b [4]byte
	for i := range b {
		b[i] = byte(number >> (8 * i))
	}
	return string(b[:])
}

// highestFirst are the lowest bytes of a number, so many of them.
func highestFirst(number uint64, size int) string {
	b := make([]byte, size)
	for i := range b {
		b[i] = byte(number >> (8 * (size - 1 - i)))
	}
	return string(b)
}
