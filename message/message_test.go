package message

import (
	"encoding/binary"
	"hash/crc32"
	"math"
	"slices"
	"strings"
	"testing"

	"milestone/api"
)

// castagnoli is the table of the library's CRC-32C.
var castagnoli = crc32.MakeTable(crc32.Castagnoli)

// withSum is some bytes, and their sum behind them.
func withSum(p string) string {
	return string(binary.LittleEndian.AppendUint32([]byte(p), crc32.Checksum([]byte(p), castagnoli)))
}

// numbers are some in the form of the document, one behind the other, told another way than package coin does.
func numbers(l ...uint64) string {
	var told strings.Builder
	for _, n := range l {
		all := binary.BigEndian.AppendUint64(nil, n)
		for size := 1; size <= 8; size++ {
			if n < 1<<(7*size) {
				all = all[8-size:]
				all[0] |= []byte{0, 0x80, 0xc0, 0xe0, 0xf0, 0xf8, 0xfc, 0xfe}[size-1]
				break
			}
		}
		if n >= 1<<56 {
			told.WriteByte(0xff)
		}
		told.Write(all)
	}
	return told.String()
}

// part is one of any kind and any bytes, in the form of the document.
func part(kind byte, own string) string {
	return string([]byte{kind}) + numbers(uint64(len(own))) + own
}

// packet is one of any parts, in the form of the document.
func packet(from int, parts ...string) string {
	return withSum("\x01" + numbers(uint64(from)) + strings.Join(parts, ""))
}

// written is a part that is Right in the form of the document, made without the package.
func written(x Part) string {
	switch x.Kind {
	case 1:
		return part(1, numbers(x.N))
	case 2:
		return part(2, numbers(uint64(x.Node), uint64(x.Metric)))
	case 3:
		return part(3, numbers(uint64(x.Node), uint64(x.P.Addr), uint64(x.P.Len), uint64(x.Seq), uint64(x.Metric)))
	}
	return part(4, numbers(uint64(x.P.Addr), uint64(x.P.Len), uint64(x.Seq), x.N))
}

// allWritten are some parts that are Right.
func allWritten(l []Part) []string {
	var told []string
	for _, x := range l {
		told = append(told, written(x))
	}
	return told
}

var (
	ten    = api.Prefix{Addr: 10 << 24, Len: 8}
	one    = api.Prefix{Addr: 0xffffffff, Len: 32}
	astray = api.Prefix{Addr: 10<<24 | 1, Len: 8} // it has a one behind its bits
)

// rightOnes are Right parts of all kinds: ordinary ones, and those at the edges.
func rightOnes() []Part {
	var l []Part
	for _, n := range []uint64{0, 1, 5, 127, 128, 1<<14 - 1, 1 << 14, 1<<21 - 1, 1 << 21, 1 << 28, 1<<32 - 1} {
		l = append(l, Part{Kind: 1, N: n})
	}
	small := []uint16{0, 1, 127, 128, 16383, 16384, 65534, 65535}
	for node := range 16 {
		m := small[node%len(small)]
		l = append(l, Part{Kind: 2, Node: node, Metric: m}, Part{Kind: 3, Node: node, P: ten, Seq: m, Metric: 65535 - m})
	}
	for i, p := range []api.Prefix{{}, {Len: 1}, {Addr: 1 << 31, Len: 1}, ten, {Addr: 10<<24 | 1<<16, Len: 16}, {Addr: 1, Len: 32}, {Len: 32}, one} {
		l = append(l, Part{Kind: 3, P: p, Node: i, Seq: small[i], Metric: small[7-i]}, Part{Kind: 3, P: p},
			Part{Kind: 4, P: p, Seq: small[i], N: uint64(9 * i)}, Part{Kind: 4, P: p}, Part{Kind: 4, P: p, N: 64, Seq: 65535})
	}
	return l
}

// wrongOnes are parts that aren't Right.
func wrongOnes() []Part {
	l := []Part{
		{}, {Kind: 0, N: 1}, {Kind: 0, P: ten},
		{Kind: 1, N: 1 << 32}, {Kind: 1, N: math.MaxUint64},
		{Kind: 1, N: 5, Node: 1}, {Kind: 1, N: 5, Node: -1}, {Kind: 1, N: 5, P: ten}, {Kind: 1, P: api.Prefix{Len: 1}}, {Kind: 1, P: api.Prefix{Addr: 1}}, {Kind: 1, N: 5, Seq: 1}, {Kind: 1, N: 5, Metric: 1},
		{Kind: 2, Node: 1, N: 1}, {Kind: 2, Node: 1, P: ten}, {Kind: 2, Node: 1, P: api.Prefix{Len: 1}}, {Kind: 2, Node: 1, P: api.Prefix{Addr: 1}}, {Kind: 2, Node: 1, Seq: 1},
		{Kind: 3, P: ten, N: 1}, {Kind: 3, P: astray}, {Kind: 3, P: api.Prefix{Len: 33}}, {Kind: 3, P: api.Prefix{Len: 255}}, {Kind: 3, P: api.Prefix{Addr: 1}}, {Kind: 3, P: api.Prefix{Addr: 1, Len: 31}},
		{Kind: 4, P: ten, Node: 1}, {Kind: 4, P: ten, Node: -1}, {Kind: 4, P: ten, Metric: 1}, {Kind: 4, P: ten, N: 65}, {Kind: 4, P: ten, N: math.MaxUint64},
		{Kind: 4, P: astray}, {Kind: 4, P: api.Prefix{Len: 33}}, {Kind: 4, P: api.Prefix{Addr: 1}}, {Kind: 4, P: api.Prefix{Addr: 1, Len: 31}},
	}
	for _, node := range []int{-1, 16, 17, 255, 256, 1 << 16, 1 << 32, math.MinInt, math.MaxInt} {
		l = append(l, Part{Kind: 2, Node: node}, Part{Kind: 3, Node: node, P: ten})
	}
	for kind := 5; kind < 256; kind++ {
		l = append(l, Part{Kind: byte(kind)}, Part{Kind: byte(kind), N: 1}, Part{Kind: byte(kind), P: ten, Seq: 1})
	}
	return l
}

// P13.1: the kinds have the numbers from 1 on, and the limits are as the document tells them.
func TestKindsAndLimits(t *testing.T) {
	if Hello != 1 || Heard != 2 || Update != 3 || Request != 4 {
		t.Error(Hello, Heard, Update, Request)
	}
	if MostParts != 300 || uint64(MostHello) != 4294967295 || MostWay != 64 {
		t.Error(MostParts, uint64(MostHello), MostWay)
	}
}

// P13.1: a part is Right if what its kind has is within its bounds, and if it has nothing else.
func TestRight(t *testing.T) {
	for _, x := range rightOnes() {
		if !Right(x) {
			t.Errorf("%v isn't Right", x)
		}
	}
	for _, x := range wrongOnes() {
		if Right(x) {
			t.Errorf("%v is Right", x)
		}
	}
}

// samePacket: is it from this node, with these parts?
func samePacket(x Packet, from int, parts []Part) bool {
	return x.From == from && slices.Equal(x.Parts, parts)
}

// wantBoth asks that Encode tells a packet in the form of the document, and that Decode leads back; neither changes what is handed in.
func wantBoth(t *testing.T, from int, parts []Part) {
	t.Helper()
	want := packet(from, allWritten(parts)...)
	own := slices.Clone(parts)
	if got := Encode(Packet{From: from, Parts: own}); string(got) != want {
		t.Errorf("Encode of %d, %v: %x, not %x", from, parts, got, want)
	}
	if !slices.Equal(own, parts) {
		t.Errorf("Encode wrote over %v: %v", parts, own)
	}
	wantPacket(t, want, from, parts, 0)
}

// wantPacket asks that Decode finds this packet, and so many parts that nobody knows.
func wantPacket(t *testing.T, p string, from int, parts []Part, unknown int) {
	t.Helper()
	b := []byte(p)
	x, n, e := Decode(b)
	if e != api.OK || n != unknown || !samePacket(x, from, parts) {
		t.Errorf("Decode of %d bytes (%x..): %v, %d, %d; not %d, %v, %d", len(p), p[:min(len(p), 40)], x, n, e, from, parts, unknown)
	}
	if string(b) != p {
		t.Errorf("Decode wrote over %x: %x", p, b)
	}
}

// wantNone asks that Decode answers this error, and nothing beside it.
func wantNone(t *testing.T, p string, want api.Errno) {
	t.Helper()
	x, n, e := Decode([]byte(p))
	if e != want || n != 0 || !samePacket(x, 0, nil) {
		t.Errorf("Decode of %d bytes (%x..): %v, %d, %d; not %d", len(p), p[:min(len(p), 40)], x, n, e, want)
	}
}

// P13.2: the document's example.
func TestExample(t *testing.T) {
	got := Encode(Packet{From: 2, Parts: []Part{{Kind: Hello, N: 5}}})
	if want := withSum("\x01\x02\x01\x01\x05"); string(got) != want {
		t.Errorf("%x, not %x", got, want)
	}
}

// P13.2: a packet as bytes, and back.
func TestEncodeAndDecode(t *testing.T) {
	all := rightOnes()
	for from := range 16 {
		wantBoth(t, from, nil)
		wantBoth(t, from, all)
		wantBoth(t, from, all[from:from+3])
	}
	for _, x := range all {
		wantBoth(t, 7, []Part{x})
		wantBoth(t, 0, []Part{x, x})
	}
}

// P13.2: Encode leaves out the parts that aren't Right, and tells those about them.
func TestEncodeOfWrongParts(t *testing.T) {
	wrong := wrongOnes()
	if got, want := Encode(Packet{From: 3, Parts: wrong}), packet(3); string(got) != want {
		t.Errorf("%x, not %x", got, want)
	}
	right := rightOnes()
	var mixed []Part
	for i, x := range right {
		mixed = append(mixed, wrong[i%len(wrong)], x, wrong[(i*7+1)%len(wrong)])
	}
	if got, want := Encode(Packet{From: 15, Parts: mixed}), packet(15, allWritten(right)...); string(got) != want {
		t.Errorf("%x, not %x", got, want)
	}
}

// hellos are so many, numbered.
func hellos(n int) []Part {
	var l []Part
	for i := range n {
		l = append(l, Part{Kind: Hello, N: uint64(i)})
	}
	return l
}

// P13.2: of more than MostParts parts that are Right Encode tells the first ones; those that aren't don't count.
func TestMostPartsOfEncode(t *testing.T) {
	wantBoth(t, 1, hellos(299))
	wantBoth(t, 1, hellos(300))
	for _, n := range []int{301, 302, 1000} {
		if got, want := Encode(Packet{From: 1, Parts: hellos(n)}), packet(1, allWritten(hellos(300))...); string(got) != want {
			t.Errorf("of %d: %d bytes, not %d", n, len(got), len(want))
		}
	}
	mixed := append(slices.Repeat([]Part{{Kind: 9}, {Kind: Hello, Seq: 1}}, 200), hellos(301)...)
	if got, want := Encode(Packet{From: 1, Parts: mixed}), packet(1, allWritten(hellos(300))...); string(got) != want {
		t.Errorf("behind wrong ones: %d bytes, not %d", len(got), len(want))
	}
}

// P13.2: Decode finds MostParts parts, and one more is ErrLong; parts of other kinds don't count.
func TestMostPartsOfDecode(t *testing.T) {
	other := part(9, "xy")
	for _, others := range []int{0, 1, 500} {
		l := append(slices.Repeat([]string{other}, others), allWritten(hellos(300))...)
		wantPacket(t, packet(1, l...), 1, hellos(300), others)
		for _, x := range rightOnes()[:40] {
			wantNone(t, packet(1, append(l, written(x))...), api.ErrLong)
		}
		wantPacket(t, packet(1, append(l, other)...), 1, hellos(300), others+1)
	}
	wantNone(t, packet(1, allWritten(hellos(5000))...), api.ErrLong)
}

// P13.2: ErrForm goes ahead of ErrLong, wherever what isn't right stands.
func TestFormAheadOfLong(t *testing.T) {
	l := allWritten(hellos(400))
	long := packet(1, l...)
	wantNone(t, long, api.ErrLong)
	wantNone(t, packet(16, l...), api.ErrForm)
	wantNone(t, withSum("\x02"+long[1:len(long)-4]), api.ErrForm)
	wantNone(t, long[:len(long)-1]+string([]byte{long[len(long)-1] ^ 1}), api.ErrForm)
	for _, wrong := range []string{part(Hello, numbers(1<<32)), part(Heard, numbers(16, 0)), "\x01\x02\x05", "\x09", "\x09\x03ab"} {
		wantNone(t, packet(1, append(l, wrong)...), api.ErrForm)
	}
	wantNone(t, packet(1, append([]string{part(Heard, numbers(16, 0))}, l...)...), api.ErrForm)
}

// P13.2: parts of other kinds are passed by, whatever bytes they have, and counted.
func TestOtherKinds(t *testing.T) {
	x, y := Part{Kind: Heard, Node: 3, Metric: 96}, Part{Kind: Request, P: ten, Seq: 8, N: 9}
	for kind := range 256 {
		if kind >= 1 && kind <= 4 {
			continue
		}
		for _, own := range []string{"", "\x00", "\xff", "\x80\x01", "\xff\xff\xff", strings.Repeat("z", 127), strings.Repeat("\xfe", 128), strings.Repeat("q", 20000)} {
			other := part(byte(kind), own)
			wantPacket(t, packet(4, other), 4, nil, 1)
			wantPacket(t, packet(4, written(x), other, written(y), other), 4, []Part{x, y}, 2)
		}
	}
	wantPacket(t, packet(0, part(5, ""), part(0, written(x)), part(255, "\x01"), written(y), part(200, packet(1))), 0, []Part{y}, 4)
}

// P13.2: what has fewer than 6 bytes is ErrShort, whatever it begins with.
func TestShort(t *testing.T) {
	wantNone(t, "", api.ErrShort)
	for _, p := range []string{packet(2), withSum("\x01"), withSum(""), "\x00\x00\x00\x00\x00\x00", "\xff\xff\xff\xff\xff\xff", "\x02\x01\x01\x01\x05\x06"} {
		for n := range min(6, len(p)) {
			wantNone(t, p[:n], api.ErrShort)
		}
	}
	if _, _, e := Decode(nil); e != api.ErrShort {
		t.Errorf("Decode(nil): %d", e)
	}
	wantPacket(t, packet(2), 2, nil, 0)
	wantNone(t, "\x00\x00\x00\x00\x00\x00", api.ErrForm)
	wantNone(t, withSum("\x01\x10"), api.ErrForm)
}

// P13.2: another version, and a node that there isn't.
func TestVersionAndFrom(t *testing.T) {
	for v := range 256 {
		p := withSum(string([]byte{byte(v), 3}) + part(Hello, "\x05"))
		if v == 1 {
			wantPacket(t, p, 3, []Part{{Kind: Hello, N: 5}}, 0)
		} else {
			wantNone(t, p, api.ErrForm)
		}
	}
	for _, from := range []uint64{16, 17, 127, 128, 256, 1 << 16, 1 << 32, 1<<32 + 3, 1 << 63, math.MaxUint64} {
		wantNone(t, withSum("\x01"+numbers(from)), api.ErrForm)
		wantNone(t, withSum("\x01"+numbers(from)+part(Hello, "\x05")), api.ErrForm)
	}
	for _, from := range []string{"\x80\x03", "\xc0\x00\x03", "\xff\x00\x00\x00\x00\x00\x00\x00\x03", "\x80", "\xff\x00"} {
		wantNone(t, withSum("\x01"+from), api.ErrForm)
	}
}

// P13.2: of the four kinds no part passes that Encode doesn't make.
func TestWrongParts(t *testing.T) {
	wrong := []string{
		part(Hello, ""), part(Hello, "\x05\x05"), part(Hello, "\x80\x05"), part(Hello, "\x80"), part(Hello, numbers(1<<32)), part(Hello, numbers(math.MaxUint64)), part(Hello, "\xff\xff"),
		part(Heard, ""), part(Heard, numbers(3)), part(Heard, numbers(3, 96, 0)), part(Heard, numbers(16, 96)), part(Heard, numbers(1<<32, 96)), part(Heard, numbers(3, 65536)), part(Heard, numbers(3, 1<<32)), part(Heard, "\x80\x03\x05"), part(Heard, "\x03\x80\x05"),
		part(Update, ""), part(Update, numbers(2, 10<<24, 8, 7)), part(Update, numbers(2, 10<<24, 8, 7, 96, 0)),
		part(Update, numbers(16, 10<<24, 8, 7, 96)), part(Update, numbers(2, 1<<32, 8, 7, 96)), part(Update, numbers(2, 10<<24, 33, 7, 96)), part(Update, numbers(2, 10<<24, 256+8, 7, 96)), part(Update, numbers(2, 10<<24+1, 8, 7, 96)), part(Update, numbers(2, 10<<24, 8, 65536, 96)), part(Update, numbers(2, 10<<24, 8, 7, 65536)),
		part(Update, numbers(2, 1<<32+10<<24, 8, 7, 96)), part(Update, numbers(2, 10<<24, 4, 7, 96)), part(Update, "\x02\x00\x80\x00\x07\x05"),
		part(Request, ""), part(Request, numbers(10<<24, 8, 7)), part(Request, numbers(10<<24, 8, 7, 9, 0)),
		part(Request, numbers(1<<32, 8, 7, 9)), part(Request, numbers(10<<24, 33, 7, 9)), part(Request, numbers(10<<24+1, 8, 7, 9)), part(Request, numbers(10<<24, 8, 65536, 9)), part(Request, numbers(10<<24, 8, 7, 65)), part(Request, numbers(10<<24, 8, 7, 1<<32)), part(Request, numbers(10<<24, 256+8, 7, 9)),
	}
	good := part(Hello, "\x05")
	for _, w := range wrong {
		wantNone(t, packet(2, w), api.ErrForm)
		wantNone(t, packet(2, good, w), api.ErrForm)
		wantNone(t, packet(2, w, good), api.ErrForm)
		wantNone(t, packet(2, part(9, w), w, part(9, "")), api.ErrForm)
	}
}

// P13.2: of each part, of whatever kind, the length is a number in its form, and so many bytes are there.
func TestWrongLengths(t *testing.T) {
	good := part(Hello, "\x05")
	for _, kind := range []byte{0, 1, 2, 3, 4, 5, 9, 127, 128, 255} {
		for _, rest := range []string{"", "\x80", "\x80\x01\x05", "\x80\x00", "\xc0\x00\x01\x05", "\x02\x05", "\x7f\x05", "\xff\xff\xff\xff\xff\xff\xff\xff\xff", "\xff\x00\x00\x00\x00\x00\x00\x00\x01\x05", "\xf8\x80\x00\x00\x00\x00", "\xff\x80\x00\x00\x00\x00\x00\x00\x00", "\xff\x80\x00\x00\x00\x00\x00\x00\x01\x05"} {
			w := string([]byte{kind}) + rest
			wantNone(t, packet(2, w), api.ErrForm)
			wantNone(t, packet(2, good, w), api.ErrForm)
		}
	}
	// a length that reaches into the next part takes that part's bytes
	wantNone(t, packet(2, "\x01\x02\x05", good), api.ErrForm)
	wantPacket(t, packet(2, "\x09\x04\x05", good), 2, nil, 1)
}

// manyPackets are Right ones of many forms.
func manyPackets() []string {
	all := rightOnes()
	return []string{packet(0), packet(15), packet(2, written(Part{Kind: Hello, N: 5})), packet(9, allWritten(all)...), packet(3, part(9, "abc"), part(0, "")),
		packet(1, written(all[20]), part(200, "\x00\x00\x00\x00\x00\x00"), written(all[30]), written(all[50]))}
}

// P13.3: a packet of which one byte is another one is none.
func TestOneByteOff(t *testing.T) {
	for _, p := range manyPackets() {
		if _, _, e := Decode([]byte(p)); e != api.OK {
			t.Fatalf("%x: %d", p, e)
		}
		b := []byte(p)
		for i := range b {
			for other := range 256 {
				if b[i] = byte(other); b[i] == p[i] {
					continue
				}
				if x, n, e := Decode(b); e != api.ErrForm || n != 0 || !samePacket(x, 0, nil) {
					t.Fatalf("%x, byte %d as %x: %v, %d, %d", p, i, other, x, n, e)
				}
			}
			b[i] = p[i]
		}
	}
}

// P13.3: a packet that is cut is none: behind, or ahead.
func TestCut(t *testing.T) {
	for _, p := range manyPackets() {
		for n := range len(p) {
			want := api.ErrForm
			if n < 6 {
				want = api.ErrShort
			}
			wantNone(t, p[:n], want)
			if n > 0 && len(p)-n >= 6 {
				wantNone(t, p[n:], api.ErrForm)
			}
		}
	}
}

// Memory: what is answered is new, and may be written over and appended to.
func TestNewMemory(t *testing.T) {
	parts := hellos(3)
	x := Packet{From: 2, Parts: parts}
	p, q := Encode(x), Encode(x)
	want := string(q)
	for i := range p {
		p[i] = 0
	}
	_ = append(p[:0], 1, 2, 3)
	if string(q) != want {
		t.Error("Encode's answers share memory")
	}
	a, _, _ := Decode(q)
	b, _, _ := Decode(q)
	for i := range q {
		q[i] = 0
	}
	for i := range a.Parts {
		a.Parts[i] = Part{}
	}
	_ = append(a.Parts[:1], Part{Kind: 9})
	if !samePacket(b, 2, parts) {
		t.Errorf("Decode's answers share memory: %v", b)
	}
}

// P1: Encode ends and doesn't panic, whoever it is from.
func TestEncodeFromAnyone(t *testing.T) {
	for _, from := range []int{-1, 16, 256, math.MinInt, math.MaxInt} {
		if p := Encode(Packet{From: from, Parts: rightOnes()}); len(p) > 0 {
			wantNone(t, string(p), api.ErrForm)
		}
	}
}
