package ip

import (
	"fmt"
	"regexp"
	"strconv"
	"strings"

	"adit/api"
)

// The model goes by the chapter's words alone: headers are texts of bits, read and laid down field by field.

// bits are those of bytes, unbits the bytes of bits.
func bits(b string) string {
	var told strings.Builder
	for i := range len(b) {
		fmt.Fprintf(&told, "%08b", b[i])
	}
	return told.String()
}

func unbits(s string) string {
	b := make([]byte, len(s)/8)
	for i := range b {
		n, _ := strconv.ParseUint(s[8*i:8*i+8], 2, 8)
		b[i] = byte(n)
	}
	return string(b)
}

func flag(set bool) string {
	if set {
		return "1"
	}
	return "0"
}

// modelSum takes a carry at once.
func modelSum(header string) int {
	sum := 0
	for i := 0; i < len(header); i += 2 {
		sum += int(header[i])*256 + int(header[i+1])
		if sum > 65535 {
			sum -= 65535
		}
	}
	return 65535 - sum
}

var kinds = regexp.MustCompile(`^(0 )?((43|60) )*$`)

func modelRight(p api.Packet) bool {
	for _, a := range []api.Addr{p.Src, p.Dst} {
		if !a.V6 && [12]byte(a.B[4:]) != [12]byte{} {
			return false
		}
	}
	most := map[*int]int{&p.Proto: 255, &p.Hop: 255, &p.Class: 255, &p.ID: 65535, &p.Offset: 65528, &p.Flow: 0}
	if p.Src.V6 {
		most[&p.Flow], most[&p.ID] = 1048575, 4294967295
	}
	if p.Src.V6 && !p.Cut {
		most[&p.ID], most[&p.Offset] = 0, 0
	}
	for field, n := range most {
		if *field < 0 || *field > n {
			return false
		}
	}
	if p.Src.V6 != p.Dst.V6 || p.Offset/8*8 != p.Offset {
		return false
	}
	if !p.Src.V6 {
		return len(p.Exts) == 0 && !p.Cut && strings.Contains(" 0 4 8 12 16 20 24 28 32 36 40 ", fmt.Sprintf(" %d ", len(p.Options)))
	}
	if len(p.Exts) > 4 {
		return false
	}
	row := ""
	for _, ext := range p.Exts {
		row += fmt.Sprint(ext.Kind, " ")
		if n := len(ext.Body) - 6; n < 0 || n/8*8 != n || n+6 > 2046 {
			return false
		}
	}
	return kinds.MatchString(row) && p.Options == "" && !p.Still && (p.Cut || !p.More) &&
		p.Proto != 0 && p.Proto != 43 && p.Proto != 44 && p.Proto != 60
}

func modelSize(p api.Packet) int {
	if !modelRight(p) {
		return 0
	}
	size := 20 + len(p.Options) + len(p.Payload)
	if p.Src.V6 {
		size += 20
	}
	for _, ext := range p.Exts {
		size += 2 + len(ext.Body)
	}
	if p.Cut {
		size += 8
	}
	return size
}

func modelBuild(p api.Packet) (string, api.Errno) {
	size := modelSize(p)
	switch {
	case size == 0:
		return "", api.ErrArg
	case p.Src.V6 && size > 65575, !p.Src.V6 && size > 65535:
		return "", api.ErrBig
	case p.Src.V6:
		return modelBuild6(p, size), api.OK
	}
	ends := bits(string(p.Src.B[:4]) + string(p.Dst.B[:4]) + p.Options)
	head := fmt.Sprintf("0100%04b%08b%016b%016b0%s%s%013b%08b%08b", 5+len(p.Options)/4, p.Class, size, p.ID, flag(p.Still), flag(p.More), p.Offset/8, p.Hop, p.Proto)
	sum := modelSum(unbits(head + strings.Repeat("0", 16) + ends))
	return unbits(head+fmt.Sprintf("%016b", sum)+ends) + p.Payload, api.OK
}

func modelBuild6(p api.Packet, size int) string {
	var chain []int
	for _, ext := range p.Exts {
		chain = append(chain, ext.Kind)
	}
	if p.Cut {
		chain = append(chain, 44)
	}
	chain = append(chain, p.Proto)
	head := fmt.Sprintf("0110%08b%020b%016b%08b%08b", p.Class, p.Flow, size-40, chain[0], p.Hop)
	head += bits(string(p.Src.B[:]) + string(p.Dst.B[:]))
	for i, ext := range p.Exts {
		head += fmt.Sprintf("%08b%08b", chain[i+1], len(ext.Body)/8) + bits(ext.Body)
	}
	if p.Cut {
		head += fmt.Sprintf("%08b00000000%013b00%s%032b", p.Proto, p.Offset/8, flag(p.More), p.ID)
	}
	return unbits(head) + p.Payload
}

// modelBits are read from the first one on.
type modelBits string

func (s *modelBits) number(many int) int {
	n, err := strconv.ParseUint(string((*s)[:many]), 2, 64)
	if err != nil {
		panic(err)
	}
	*s = (*s)[many:]
	return int(n)
}

func (s *modelBits) addr(many int) api.Addr {
	a := api.Addr{V6: many == 16}
	for i := range many {
		a.B[i] = byte(s.number(8))
	}
	return a
}

func modelParse(b string) (api.Packet, api.Errno) {
	if len(b) == 0 {
		return api.Packet{}, api.ErrShort
	}
	switch fmt.Sprintf("%02x", b[0])[0] {
	case '4':
		return modelParse4(b)
	case '6':
		return modelParse6(b)
	}
	return api.Packet{}, api.ErrVersion
}

func modelParse4(b string) (p api.Packet, errno api.Errno) {
	if len(b) < 20 {
		return p, api.ErrShort
	}
	s := modelBits(bits(b[:20]))
	s.number(4)
	head := 4 * s.number(4)
	p.Class = s.number(8)
	size := s.number(16)
	if head < 20 || head > len(b) || size < head || size > len(b) {
		return api.Packet{}, api.ErrLength
	}
	p.ID = s.number(16)
	above := s.number(1)
	p.Still, p.More = s.number(1) == 1, s.number(1) == 1
	p.Offset = 8 * s.number(13)
	p.Hop, p.Proto = s.number(8), s.number(8)
	if s.number(16) != modelSum(b[:10]+"\x00\x00"+b[12:head]) {
		return api.Packet{}, api.ErrCheck
	}
	if above == 1 {
		return api.Packet{}, api.ErrForm
	}
	p.Src, p.Dst = s.addr(4), s.addr(4)
	p.Options, p.Payload = b[20:head], b[head:size]
	return p, api.OK
}

func modelParse6(b string) (p api.Packet, errno api.Errno) {
	if len(b) < 40 {
		return p, api.ErrShort
	}
	s := modelBits(bits(b[:40]))
	s.number(4)
	p.Class, p.Flow = s.number(8), s.number(20)
	size := 40 + s.number(16)
	if size > len(b) {
		return api.Packet{}, api.ErrLength
	}
	p.Proto, p.Hop = s.number(8), s.number(8)
	p.Src, p.Dst = s.addr(16), s.addr(16)
	p.Payload = b[40:size]
	return modelHeaders(p)
}

// modelHeaders takes one header after another off the Payload; Proto is what is next.
func modelHeaders(p api.Packet) (api.Packet, api.Errno) {
	left := p.Payload
	switch p.Proto {
	case 0, 43, 60:
		if p.Proto == 0 && len(p.Exts) > 0 || len(p.Exts) == 4 {
			return api.Packet{}, api.ErrForm
		}
		if len(left) < 8 || len(left) < 8*(int(left[1])+1) {
			return api.Packet{}, api.ErrLength
		}
		size := 8 * (int(left[1]) + 1)
		p.Exts = append(p.Exts, api.Ext{Kind: p.Proto, Body: left[2:size]})
		p.Proto, p.Payload = int(left[0]), left[size:]
		return modelHeaders(p)
	case 44:
		if len(left) < 8 {
			return api.Packet{}, api.ErrLength
		}
		s := modelBits(bits(left[:8]))
		p.Proto = s.number(8)
		second := s.number(8)
		p.Offset = 8 * s.number(13)
		between := s.number(2)
		p.More, p.ID, p.Cut = s.number(1) == 1, s.number(32), true
		if second != 0 || between != 0 || p.Proto == 0 || p.Proto == 43 || p.Proto == 44 || p.Proto == 60 {
			return api.Packet{}, api.ErrForm
		}
		p.Payload = left[8:]
	}
	return p, api.OK
}
