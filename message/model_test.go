package message

import (
	"testing"

	"milestone/api"
)

// chance tells numbers that look like any.
type chance uint32

func (x *chance) below(n int) int {
	*x = *x*1664525 + 1013904223
	return int(*x>>8) % n
}

// readNumber is the number that a text begins with and what is behind it, if it is in the form of the document: found by telling it again.
func readNumber(p string) (uint64, string, bool) {
	if p == "" {
		return 0, "", false
	}
	size := 1
	for size <= 8 && int(p[0])&(0x100>>size) != 0 {
		size++
	}
	if len(p) < size {
		return 0, "", false
	}
	n := uint64(0)
	for i := range size {
		n = n<<8 | uint64(p[i])
	}
	if size <= 8 {
		n &= 1<<(7*size) - 1
	}
	return n, p[size:], numbers(n) == p[:size]
}

// readNumbers are those of a text, if it has nothing else.
func readNumbers(p string) ([]uint64, bool) {
	var l []uint64
	for p != "" {
		n, rest, ok := readNumber(p)
		if !ok {
			return nil, false
		}
		l, p = append(l, n), rest
	}
	return l, true
}

// readPart is the part of one of the four kinds that a text tells.
func readPart(kind byte, own string) (Part, bool) {
	l, ok := readNumbers(own)
	if !ok || len(l) != []int{0, 1, 2, 5, 4}[kind] {
		return Part{}, false
	}
	prefixAt := func(i int) (api.Prefix, bool) {
		if l[i] >= 1<<32 || l[i+1] > 32 || l[i]<<l[i+1]&(1<<32-1) != 0 {
			return api.Prefix{}, false
		}
		return api.Prefix{Addr: uint32(l[i]), Len: uint8(l[i+1])}, true
	}
	switch kind {
	case 1:
		return Part{Kind: 1, N: l[0]}, l[0] < 1<<32
	case 2:
		return Part{Kind: 2, Node: int(l[0]), Metric: uint16(l[1])}, l[0] < 16 && l[1] < 65536
	case 3:
		p, ok := prefixAt(1)
		return Part{Kind: 3, Node: int(l[0]), P: p, Seq: uint16(l[3]), Metric: uint16(l[4])}, ok && l[0] < 16 && l[3] < 65536 && l[4] < 65536
	}
	p, ok := prefixAt(0)
	return Part{Kind: 4, P: p, Seq: uint16(l[2]), N: l[3]}, ok && l[2] < 65536 && l[3] <= 64
}

// read is what the document asks of Decode, of a text whose sum is right.
func read(p string) (int, []Part, int, api.Errno) {
	if len(p) < 6 {
		return 0, nil, 0, api.ErrShort
	}
	from, rest, ok := readNumber(p[1 : len(p)-4])
	if !ok || p[0] != 1 || from > 15 {
		return 0, nil, 0, api.ErrForm
	}
	var l []Part
	others := 0
	for rest != "" {
		kind := rest[0]
		size, behind, ok := readNumber(rest[1:])
		if !ok || size > uint64(len(behind)) {
			return 0, nil, 0, api.ErrForm
		}
		if kind == 0 || kind > 4 {
			others++
		} else if x, ok := readPart(kind, behind[:size]); ok {
			l = append(l, x)
		} else {
			return 0, nil, 0, api.ErrForm
		}
		rest = behind[size:]
	}
	if len(l) > 300 {
		return 0, nil, 0, api.ErrLong
	}
	return int(from), l, others, api.OK
}

// wantRead asks that Decode answers as read does.
func wantRead(t *testing.T, p string) api.Errno {
	t.Helper()
	from, l, others, e := read(p)
	if e == api.OK {
		wantPacket(t, p, from, l, others)
	} else {
		wantNone(t, p, e)
	}
	return e
}

// anyNumber is one about the edges of what parts tell, or any.
func (x *chance) anyNumber() uint64 {
	edges := []uint64{0, 1, 8, 15, 16, 31, 32, 33, 63, 64, 65, 96, 127, 128, 256, 65534, 65535, 65536, 10 << 24, 1<<32 - 1, 1 << 32, 1 << 63}
	if x.below(2) == 0 {
		return edges[x.below(len(edges))]
	}
	return uint64(x.below(20))
}

// anyPart is one in its form, of a kind that may be known, its numbers being right, nearly right, or of another kind.
func (x *chance) anyPart(right []Part) string {
	switch x.below(8) {
	case 0:
		return part(byte(x.below(256)), string(make([]byte, x.below(4))))
	case 1:
		var l []uint64
		for range x.below(7) {
			l = append(l, x.anyNumber())
		}
		return part(byte(x.below(6)), numbers(l...))
	}
	return written(right[x.below(len(right))])
}

// P13.2, P1: Decode answers as the document asks, of packets whose parts are right or nearly so, and of those with bytes changed, cut out, or put in, but a right sum.
func TestAsAModel(t *testing.T) {
	x := chance(13)
	right := rightOnes()
	seen := map[api.Errno]int{}
	for range 60000 {
		body := "\x01" + string([]byte{byte(x.below(17))})
		for range x.below(6) {
			body += x.anyPart(right)
		}
		b := []byte(body)
		switch i := x.below(len(b)); x.below(6) {
		case 0:
			b[i] ^= byte(1 << x.below(8))
		case 1:
			b = append(b[:i:i], b[i+1:]...)
		case 2:
			b = append(b[:i:i], append([]byte{byte(x.below(256))}, b[i:]...)...)
		}
		seen[wantRead(t, withSum(string(b)))]++
	}
	if seen[api.OK] < 10000 || seen[api.ErrForm] < 10000 {
		t.Errorf("these came: %v", seen)
	}
}

// P13.2: what Decode finds without parts of other kinds Encode makes of what was found, byte by byte.
func TestDecodedIsEncoded(t *testing.T) {
	x := chance(7)
	right := rightOnes()
	found := 0
	for range 20000 {
		var l []string
		for range x.below(4) {
			l = append(l, x.anyPart(right))
		}
		p := packet(x.below(16), l...)
		got, others, e := Decode([]byte(p))
		if e != api.OK || others > 0 {
			continue
		}
		found++
		if again := Encode(got); string(again) != p {
			t.Fatalf("%x is found as %v, which is told as %x", p, got, again)
		}
	}
	if found < 5000 {
		t.Errorf("%d were found", found)
	}
}

// P1: Decode ends and doesn't panic, whatever bytes it is given; without a right sum it finds nothing.
func TestAnyBytes(t *testing.T) {
	x := chance(29)
	for range 50000 {
		b := make([]byte, x.below(30))
		for i := range b {
			b[i] = byte(x.below(256))
		}
		if _, _, e := Decode(b); e == api.OK {
			t.Errorf("%x is a packet", b)
		}
		wantRead(t, withSum(string(b)))
	}
}
