package message

import (
	"math"

	"milestone/api"
	"milestone/coin"
	"milestone/tally"
)

const (
	versionSize = 1
	kindSize    = 1
	sumSize     = 4
	byteBits    = 8
	// leastSize is how many bytes a packet without parts has: that of a node is one.
	leastSize = versionSize + 1 + sumSize
	// mostLen is how many bits an address has.
	mostLen = 32
)

// putPart puts a part that is Right behind some bytes.
func putPart(p []byte, x Part) []byte {
	var own []byte
	for _, n := range numbersOf(x) {
		own = coin.Put(own, n)
	}
	p = coin.Put(append(p, x.Kind), uint64(len(own)))
	return append(p, own...)
}

// numbersOf are those that a part of its kind tells.
func numbersOf(x Part) []uint64 {
	switch x.Kind {
	case Hello:
		return []uint64{x.N}
	case Heard:
		return []uint64{uint64(x.Node), uint64(x.Metric)}
	case Update:
		return []uint64{uint64(x.Node), uint64(x.P.Addr), uint64(x.P.Len), uint64(x.Seq), uint64(x.Metric)}
	case Request:
		return []uint64{uint64(x.P.Addr), uint64(x.P.Len), uint64(x.Seq), x.N}
	}
	return nil
}

// takeParts takes all parts that are left: those of known kinds, and how many others there are.
func takeParts(rest *coin.Purse) ([]Part, int, api.Errno) {
	var parts []Part
	unknown := 0
	for rest.Fault() == api.OK && rest.Left() > 0 {
		kind, own := takeOne(rest)
		if !known(kind) {
			unknown++
			continue
		}
		x, e := partOf(kind, own)
		if e != api.OK {
			return nil, 0, e
		}
		parts = append(parts, x)
	}
	if e := rest.End(); e != api.OK {
		return nil, 0, e
	}
	return parts, unknown, api.OK
}

// takeOne takes the kind of the next part, and its bytes. Behind a fault it takes none, of kind 0, which nobody knows.
func takeOne(rest *coin.Purse) (byte, []byte) {
	kind := rest.Bytes(kindSize)
	size := rest.Take(uint64(rest.Left()))
	own := rest.Bytes(int(size))
	if rest.Fault() != api.OK {
		return 0, nil
	}
	return kind[0], own
}

// known: is it a kind of which parts are told?
func known(kind byte) bool {
	return kind >= Hello && kind <= Request
}

// partOf is the part of a known kind that has these bytes, no more and no less.
func partOf(kind byte, own []byte) (Part, api.Errno) {
	p := coin.NewPurse(own)
	x := Part{Kind: kind}
	switch kind {
	case Hello:
		x.N = p.Take(MostHello)
	case Heard:
		x.Node = takeNode(p)
		x.Metric = take16(p)
	case Update:
		x.Node = takeNode(p)
		x.P = takePrefix(p)
		x.Seq = take16(p)
		x.Metric = take16(p)
	case Request:
		x.P = takePrefix(p)
		x.Seq = take16(p)
		x.N = p.Take(MostWay)
	}
	if e := p.End(); e != api.OK {
		return Part{}, e
	}
	if !Right(x) {
		return Part{}, api.ErrForm
	}
	return x, api.OK
}

func takeNode(p *coin.Purse) int {
	return int(p.Take(api.MaxNodes - 1))
}

func take16(p *coin.Purse) uint16 {
	return uint16(p.Take(math.MaxUint16))
}

// takePrefix takes a prefix, Right or not.
func takePrefix(p *coin.Purse) api.Prefix {
	addr := uint32(p.Take(math.MaxUint32))
	return api.Prefix{Addr: addr, Len: uint8(p.Take(mostLen))}
}

// sumOf is the sum of some bytes as it stands behind them: its lowest byte first.
func sumOf(p []byte) [sumSize]byte {
	sum := tally.Sum(p)
	var told [sumSize]byte
	for i := range sumSize {
		told[i] = byte(sum)
		sum >>= byteBits
	}
	return told
}
