package ip

import (
	"adit/api"
	"adit/wire"
)

// reader goes over bytes. What ends too early, or is wrong, it gives up by panic.
type reader struct{ left string }

// take are the next bytes, so many.
func (r *reader) take(size int, errno api.Errno) string {
	need(size <= len(r.left), errno)
	taken := r.left[:size]
	r.left = r.left[size:]
	return taken
}

func read(b string) api.Packet {
	need(b != "", api.ErrShort)
	r := &reader{left: b}
	switch b[0] >> 4 {
	case 4:
		return r.packet4()
	case 6:
		return r.packet6()
	}
	panic(api.ErrVersion)
}

func (r *reader) packet4() api.Packet {
	need(len(r.left) >= headSize4, api.ErrShort)
	head, size := number(r.left, 0, 1)%16*four, number(r.left, 2, 2)
	need(headSize4 <= head && head <= size, api.ErrLength)
	b := r.take(size, api.ErrLength)
	// the sums are held against each other: one over all of the header would let 65535 pass for 0
	need(b[sumPlace:sumPlace+sumSize] == sumOf(b[:sumPlace], b[sumPlace+sumSize:head]), api.ErrCheck)
	bits := number(b, 6, 2)
	need(bits&above4 == 0, api.ErrForm)
	return api.Packet{
		Src: address(b[12:16]), Dst: address(b[16:headSize4]),
		Class: number(b, 1, 1), ID: number(b, 4, 2), Hop: number(b, 8, 1), Proto: number(b, 9, 1),
		Offset: bits % more4 * eight, More: bits&more4 != 0, Still: bits&still4 != 0,
		Options: b[headSize4:head], Payload: b[head:],
	}
}

func (r *reader) packet6() api.Packet {
	b := r.take(headSize6, api.ErrShort)
	r.left = r.take(number(b, 4, 2), api.ErrLength)
	first := number(b, 0, 4)
	p := api.Packet{
		Src: address(b[8:24]), Dst: address(b[24:headSize6]),
		Class: first >> 20 & mostByte, Flow: first & mostFlow, Hop: number(b, 7, 1),
	}
	p.Proto = r.headers(&p, number(b, 6, 1))
	p.Payload = r.left
	return p
}

// headers goes over the headers behind the first one, into the packet, and tells what the last one says is next.
func (r *reader) headers(p *api.Packet, next int) int {
headers:
	for {
		switch {
		case isExt(next):
			need(mayStand(next, len(p.Exts)), api.ErrForm)
			ext, behind := r.ext(next)
			p.Exts = append(p.Exts, ext)
			next = behind
		case next == api.ProtoFrag:
			next = r.cut(p)
			break headers
		default:
			break headers
		}
	}
	return next
}

// ext is an extension header, and what it says is next.
func (r *reader) ext(kind int) (api.Ext, int) {
	least := r.take(eight, api.ErrLength)
	rest := r.take(number(least, 1, 1)*eight, api.ErrLength)
	return api.Ext{Kind: kind, Body: least[extHead:] + rest}, number(least, 0, 1)
}

// cut reads what Cut adds into the packet, and tells what it says is next.
func (r *reader) cut(p *api.Packet) int {
	b := r.take(cutSize, api.ErrLength)
	next, bits := number(b, 0, 1), number(b, 2, 2)
	need(b[1] == 0 && bits&above6 == 0 && !isHeader(next), api.ErrForm)
	p.Cut, p.ID = true, number(b, 4, 4)
	p.Offset, p.More = bits&mostOffset, bits&more6 != 0
	return next
}

// number is the one that stands there: who asks has taken its bytes.
func number(b string, at, size int) int {
	n, _ := wire.Get(b, at, size)
	return int(n)
}

func address(b string) api.Addr {
	a, _ := wire.From(b)
	return a
}

// need gives the reader up by an error, unless something holds.
func need(holds bool, errno api.Errno) {
	if !holds {
		panic(errno)
	}
}

// attempt tells the error by which steps were given up.
func attempt(steps func()) (errno api.Errno) {
	defer func() {
		if reason := recover(); reason != nil {
			errno = reason.(api.Errno)
		}
	}()
	steps()
	return api.OK
}
