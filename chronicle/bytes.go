package chronicle

import (
	"math"

	"milestone/api"
	"milestone/coin"
	"milestone/frame"
)

// The kinds of frames that aren't records.
const (
	headKind  = 0x4c
	titleKind = 0x54
	baseKind  = 0x62
)

// packHead is a head as an index.
func packHead(h Head) []byte {
	return packNumbers(headKind, h.First, h.Base, h.Upto)
}

// packTitle is what a volume begins with.
func packTitle(v Volume) []byte {
	return packNumbers(titleKind, v.No, v.First)
}

// packNumbers is a frame of numbers.
func packNumbers(kind byte, l ...uint64) []byte {
	var p []byte
	for _, n := range l {
		p = coin.Put(p, n)
	}
	return frame.Pack(kind, p)
}

// takeNumbers takes numbers out of a frame; false: it is of another kind, or is of anything but so many numbers.
func takeNumbers(f frame.Item, kind byte, l ...*uint64) bool {
	x := coin.NewPurse(f.P)
	for _, n := range l {
		*n = x.Take(math.MaxUint64)
	}
	return f.Kind == kind && x.End() == api.OK
}

// volumeOf: the volume that some bytes are, as far as these are whole; false: they don't begin with a right title.
// There is no record 0 with which one could begin.
func volumeOf(p []byte) (Volume, bool) {
	l, size, _ := frame.Scan(p)
	if len(l) == 0 {
		return Volume{}, false
	}
	v := Volume{L: l[1:], Size: size}
	if !takeNumbers(l[0], titleKind, &v.No, &v.First) {
		return Volume{}, false
	}
	return v, v.First > 0
}
