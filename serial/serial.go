// Package serial is layer 2: see shared/doc/02-serial.md.
package serial

import (
	"milestone/api"
)

// half is how many serials are a half of all.
const half = 1 << 15

// Newer: does one stand behind another one, going round?
func Newer(a, b uint16) bool {
	ahead := a - b
	return 0 < ahead && ahead < half
}

// Next: so many behind.
func Next(a uint16, n int) uint16 {
	return a + uint16(n)
}

// Latest: the one behind all others; of none 0. (Promised of serials that lie within less than half of all.)
func Latest(l ...uint16) uint16 {
	if len(l) == 0 {
		return 0
	}
	latest := l[0]
	for _, s := range l[1:] {
		if Newer(s, latest) {
			latest = s
		}
	}
	return latest
}

// Nearer: is a mark nearer than another one: of a newer serial, or of the same one and with a lesser metric?
func Nearer(a, b api.Mark) bool {
	return Newer(a.Seq, b.Seq) || a.Seq == b.Seq && a.Metric < b.Metric
}

// Best: the nearer one of two.
func Best(a, b api.Mark) api.Mark {
	if Nearer(b, a) {
		return b
	}
	return a
}

// Sum: a metric, and some more: there is no way at all, if that is as much as can't be.
func Sum(a, b uint16) uint16 {
	return uint16(min(uint32(a)+uint32(b), api.Endless))
}
