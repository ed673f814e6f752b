package ip

import "adit/api"

// The sizes of headers, and the places that both directions go by.
const (
	headSize4 = 20 // without Options
	headSize6 = 40 // without Exts
	extHead   = 2  // bytes of an extension header ahead of its Body
	cutSize   = 8  // bytes that Cut adds
	four      = 4  // headers of version 4 are counted in fours
	eight     = 8  // offsets, and extension headers, in eights
	sumPlace  = 10 // of the checksum of version 4
	sumSize   = 2
)

// What the fields have at most.
const (
	mostByte    = 1<<8 - 1
	mostOffset  = 1<<16 - eight
	mostID4     = 1<<16 - 1
	mostID6     = 1<<32 - 1
	mostFlow    = 1<<20 - 1
	mostOptions = 40
	mostBody    = eight*(1+mostByte) - extHead
)

// The bits beside Offset.
const (
	more4  = 1 << 13
	still4 = 1 << 14
	above4 = 1 << 15 // it has no meaning, and must not be set
	more6  = 1
	above6 = 6 // the bits between Offset and More: so must these
)

func right4(p api.Packet) bool {
	return upTo(p.ID, mostID4) &&
		len(p.Options)%four == 0 && len(p.Options) <= mostOptions &&
		p.Flow == 0 && len(p.Exts) == 0 && !p.Cut
}

func right6(p api.Packet) bool {
	if !upTo(p.Flow, mostFlow) || p.Options != "" || p.Still || !rightExts(p.Exts) || isHeader(p.Proto) {
		return false
	}
	if !p.Cut {
		return p.ID == 0 && p.Offset == 0 && !p.More
	}
	return upTo(p.ID, mostID6)
}

func rightExts(exts []api.Ext) bool {
	for ahead, ext := range exts {
		wholeEights := (extHead+len(ext.Body))%eight == 0
		if !isExt(ext.Kind) || !mayStand(ext.Kind, ahead) || !wholeEights || len(ext.Body) > mostBody {
			return false
		}
	}
	return true
}

// mayStand tells whether an extension header may stand behind so many others.
func mayStand(kind, ahead int) bool {
	return ahead < api.MaxExt && (kind != api.ProtoHop || ahead == 0)
}

// isExt tells whether a next header says an extension header that a packet keeps; isHeader also that which Cut adds.
func isExt(next int) bool {
	return next == api.ProtoHop || next == api.ProtoRoute || next == api.ProtoDest
}
func isHeader(next int) bool { return isExt(next) || next == api.ProtoFrag }

// headSize is how many bytes the header of a packet that may be has.
func headSize(p api.Packet) int {
	if !p.Src.V6 {
		return headSize4 + len(p.Options)
	}
	size := headSize6
	for _, ext := range p.Exts {
		size += extHead + len(ext.Body)
	}
	if p.Cut {
		size += cutSize
	}
	return size
}

// fits tells whether the size of a packet that may be can be told in two bytes: version 6 doesn't count its first header.
func fits(p api.Packet) bool {
	counted := headSize(p) + len(p.Payload)
	if p.Src.V6 {
		counted -= headSize6
	}
	return counted <= api.MaxPacket
}

func upTo(n, most int) bool { return n >= 0 && n <= most }
