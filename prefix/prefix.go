// Package prefix is layer 1: see shared/doc/01-prefix.md.
package prefix

import (
	"cmp"
	"math/bits"
	"strconv"

	"milestone/api"
)

// addrBits is how many bits an address has.
const addrBits = 32

// marks are what stands between the numbers of a text, in their order.
const marks = ".../"

// Right: may a prefix be?
func Right(p api.Prefix) bool {
	return p.Len <= addrBits && p.Addr&^mask(p.Len) == 0
}

// Of: the prefix of so many bits in which an address lies; of more than 32 bits of 32.
func Of(addr uint32, n uint8) api.Prefix {
	n = min(n, addrBits)
	return api.Prefix{Addr: addr & mask(n), Len: n}
}

// Has: does an address lie in a prefix?
func Has(p api.Prefix, addr uint32) bool {
	return (p.Addr^addr)&mask(p.Len) == 0
}

// Within: does all of one lie in another one?
func Within(p, q api.Prefix) bool {
	return p.Len >= q.Len && Has(q, p.Addr)
}

// Compare: below, at, above 0: by addresses, then the shorter one first.
func Compare(a, b api.Prefix) int {
	return cmp.Or(cmp.Compare(a.Addr, b.Addr), cmp.Compare(a.Len, b.Len))
}

// Common: how many bits two have alike from the first one on, at most as many as the shorter one has.
func Common(a, b api.Prefix) uint8 {
	alike := bits.LeadingZeros32(a.Addr ^ b.Addr)
	return min(uint8(alike), a.Len, b.Len)
}

// Bit: a bit of an address, the first one 0.
func Bit(addr uint32, i uint8) bool {
	return i < addrBits && addr>>(addrBits-1-i)&1 == 1
}

// Text: a prefix as a text: four numbers with points, and how many bits.
func Text(p api.Prefix) string {
	numbers := [...]uint8{uint8(p.Addr >> 24), uint8(p.Addr >> 16), uint8(p.Addr >> 8), uint8(p.Addr), p.Len}
	var text []byte
	for i, n := range numbers {
		if i > 0 {
			text = append(text, marks[i-1])
		}
		text = strconv.AppendUint(text, uint64(n), 10)
	}
	return string(text)
}

// Parse: and back. ErrForm: Text makes it of none.
func Parse(s string) (api.Prefix, api.Errno) {
	p, ok := read(s)
	if !ok || !Right(p) || Text(p) != s {
		return api.Prefix{}, api.ErrForm
	}
	return p, api.OK
}

// read takes the numbers out of a text, if it has digits and marks alone, and each mark in its place.
// It lets through a number that is empty, too great or begins with noughts, for that isn't what Text writes:
// who asks holds what came out against the text.
func read(s string) (api.Prefix, bool) {
	var numbers [len(marks) + 1]uint8
	at := 0
	for _, r := range s {
		switch {
		case '0' <= r && r <= '9':
			numbers[at] = numbers[at]*10 + uint8(r-'0')
		case at < len(marks) && r == rune(marks[at]):
			at++
		default:
			return api.Prefix{}, false
		}
	}
	addr := uint32(numbers[0])<<24 | uint32(numbers[1])<<16 | uint32(numbers[2])<<8 | uint32(numbers[3])
	return api.Prefix{Addr: addr, Len: numbers[4]}, at == len(marks)
}

// mask has ones at the first n bits, and noughts behind them.
func mask(n uint8) uint32 {
	return ^(^uint32(0) >> n)
}
