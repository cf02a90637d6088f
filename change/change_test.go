package change

import (
	"bytes"
	"math"
	"slices"
	"strings"
	"testing"

	"milestone/api"
)

// number is a number in the form of the document, told another way than package coin does.
func number(n uint64) string {
	all := []byte{byte(n >> 56), byte(n >> 48), byte(n >> 40), byte(n >> 32), byte(n >> 24), byte(n >> 16), byte(n >> 8), byte(n)}
	for size := 1; size <= 8; size++ {
		if n < 1<<(7*size) {
			p := all[8-size:]
			p[0] |= []byte{0, 0x80, 0xc0, 0xe0, 0xf0, 0xf8, 0xfc, 0xfe}[size-1]
			return string(p)
		}
	}
	return "\xff" + string(all)
}

// difference is a number that may be below 0 in the form of the document.
func difference(to, from int) string {
	if to < from {
		return number(uint64(2*(from-to) - 1))
	}
	return number(uint64(2 * (to - from)))
}

// firstBytes are the bytes of a prefix's address that its length has begun.
func firstBytes(p api.Prefix) string {
	all := string([]byte{byte(p.Addr >> 24), byte(p.Addr >> 16), byte(p.Addr >> 8), byte(p.Addr)})
	switch {
	case p.Len == 0:
		return ""
	case p.Len <= 8:
		return all[:1]
	case p.Len <= 16:
		return all[:2]
	case p.Len <= 24:
		return all[:3]
	}
	return all
}

// shared is how many bytes two prefixes have alike.
func shared(a, b api.Prefix) int {
	s, own := 0, firstBytes(b)
	for s < len(own) && strings.HasPrefix(firstBytes(a), own[:s+1]) {
		s++
	}
	return s
}

// headed are a change's bytes up to its route, with any numbers in its head.
func headed(time uint64, length, s, gone int, behind string) string {
	return number(time) + number(uint64(16*length+2*s+gone)) + behind
}

// written is a change in the form of the document, made without the package.
func written(last, c api.Change) string {
	s := shared(last.R.P, c.R.P)
	addr := firstBytes(c.R.P)[s:]
	if c.Gone {
		return headed(c.Time-last.Time, int(c.R.P.Len), s, 1, addr)
	}
	from := last.R
	if last.Gone {
		from = api.Route{}
	}
	return headed(c.Time-last.Time, int(c.R.P.Len), s, 0, addr) + difference(c.R.Via, from.Via) +
		difference(int(c.R.Metric), int(from.Metric)) + number(uint64((int(c.R.Seq)-int(from.Seq)+65536)%65536))
}

// of is a prefix of an address's first bits.
func of(addr uint32, n int) api.Prefix {
	return api.Prefix{Addr: uint32(uint64(addr) >> (32 - n) << (32 - n)), Len: uint8(n)}
}

// prefixes are ordinary ones, those at the edges, and many that have bytes alike.
func prefixes() []api.Prefix {
	var l []api.Prefix
	for _, addr := range []uint32{0, 0x0a010203, 0x0a010280, 0x0a018003, 0x0aff0203, 0x0b010203, 0xffffffff} {
		for _, n := range []int{0, 1, 7, 8, 9, 15, 16, 17, 23, 24, 25, 31, 32} {
			if p := of(addr, n); !slices.Contains(l, p) {
				l = append(l, p)
			}
		}
	}
	return l
}

// routes are of one prefix: ordinary ones, and those at the edges.
func routes(p api.Prefix) []api.Route {
	var l []api.Route
	for i, metric := range []uint16{0, 1, 63, 64, 96, 8191, 8192, 32767, 32768, 65533, 65534} {
		for _, seq := range []uint16{0, 1, 127, 128, 32768, 65535} {
			l = append(l, api.Route{P: p, Via: (i + int(seq)) % api.MaxNodes, Metric: metric, Seq: seq})
		}
	}
	return append(l, api.Route{P: p, Via: 15}, api.Route{P: p, Via: 15, Metric: 65534, Seq: 65535})
}

// changes are Right ones of any number and time.
func changes() []api.Change {
	var l []api.Change
	for i, p := range prefixes() {
		rs := routes(p)
		l = append(l, api.Change{Gone: true, R: api.Route{P: p}}, api.Change{R: rs[i%len(rs)]}, api.Change{R: rs[i*31%len(rs)]})
	}
	for _, r := range routes(of(0x0a000000, 8)) {
		l = append(l, api.Change{R: r})
	}
	return l
}

// wantBoth asks that Encode tells this change in the form of the document, and that Decode leads back.
func wantBoth(t *testing.T, last, c api.Change) {
	t.Helper()
	want := written(last, c)
	if Right(c) != api.OK || !Follows(last, c) {
		t.Errorf("%v behind %v: Right %d, Follows %v", c, last, Right(c), Follows(last, c))
	}
	if got := Encode(last, c); string(got) != want {
		t.Errorf("Encode(%v, %v) = %x, not %x", last, c, got, want)
	}
	p := []byte(want)
	if got, e := Decode(last, p); got != c || e != api.OK {
		t.Errorf("Decode(%v, %x) = %v, %d, not %v", last, p, got, e, c)
	}
	if string(p) != want {
		t.Errorf("Decode wrote over %x: %x", want, p)
	}
}

// wantNone asks that no change is told by these bytes.
func wantNone(t *testing.T, last api.Change, p string) {
	t.Helper()
	c, e := Decode(last, []byte(p))
	if c != (api.Change{}) || e != api.ErrForm && e != api.ErrShort && e != api.ErrLong {
		t.Errorf("Decode(%v, %x) = %v, %d", last, p, c, e)
	}
}

// P7.1: of a change that isn't gone Right asks for a neighbor and a metric that may be; its number and time may be any.
func TestRight(t *testing.T) {
	for _, c := range changes() {
		for _, no := range []uint64{0, 1, math.MaxUint64} {
			c.No, c.Time = no, math.MaxUint64-no
			if e := Right(c); e != api.OK {
				t.Errorf("Right(%v) = %d", c, e)
			}
		}
	}
	p := of(0x0a000000, 8)
	for via := -20; via < 40; via++ {
		want := api.ErrArg
		if via >= 0 && via < 16 {
			want = api.OK
		}
		if e := Right(api.Change{R: api.Route{P: p, Via: via}}); e != want {
			t.Errorf("Right, by %d: %d", via, e)
		}
	}
	for _, via := range []int{math.MinInt, math.MaxInt, math.MinInt32, math.MaxInt32, 256, 1 << 16, 1 << 32} {
		if e := Right(api.Change{R: api.Route{P: p, Via: via}}); e != api.ErrArg {
			t.Errorf("Right, by %d: %d", via, e)
		}
	}
	for metric, want := range map[uint16]api.Errno{0: api.OK, 32767: api.OK, 65534: api.OK, 65535: api.ErrArg} {
		if e := Right(api.Change{R: api.Route{P: p, Metric: metric}}); e != want {
			t.Errorf("Right, of metric %d: %d", metric, e)
		}
	}
	if Right(api.Change{}) != api.OK {
		t.Error("Right of the zero change")
	}
}

// P7.1: the prefix must be Right, whether it is gone or not.
func TestRightPrefix(t *testing.T) {
	wrong := []api.Prefix{{Addr: 1}, {Addr: 1 << 31}, {Addr: 0x0a000001, Len: 8}, {Addr: 0x0a800000, Len: 8}, {Addr: 1, Len: 31}, {Len: 33}, {Addr: 0x0a010203, Len: 33}, {Len: 255}}
	for _, p := range wrong {
		for _, gone := range []bool{false, true} {
			if e := Right(api.Change{No: 1, Gone: gone, R: api.Route{P: p}}); e != api.ErrArg {
				t.Errorf("Right, of %v, gone %v: %d", p, gone, e)
			}
		}
	}
}

// P7.1: a gone one tells its prefix alone.
func TestRightGone(t *testing.T) {
	for _, p := range prefixes() {
		if e := Right(api.Change{No: 3, Time: 7, Gone: true, R: api.Route{P: p}}); e != api.OK {
			t.Errorf("Right, of %v, gone: %d", p, e)
		}
		for _, r := range []api.Route{{Via: 1}, {Via: -1}, {Via: 16}, {Metric: 1}, {Metric: api.Endless}, {Seq: 1}, {Seq: 65535}, {Via: 3, Metric: 96, Seq: 1}} {
			r.P = p
			if e := Right(api.Change{Gone: true, R: r}); e != api.ErrArg {
				t.Errorf("Right, of %v, gone: %d", r, e)
			}
		}
	}
}

// P7.1: Follows asks for the next number, and for no lesser time, and for nothing else.
func TestFollows(t *testing.T) {
	known := []struct {
		no, time, nextNo, nextTime uint64
		want                       bool
	}{
		{0, 0, 1, 0, true}, {0, 0, 0, 0, false}, {0, 0, 2, 0, false}, {1, 0, 0, 0, false}, {5, 9, 6, 9, true}, {5, 9, 6, 8, false}, {5, 9, 6, 10, true},
		{5, 9, 5, 10, false}, {5, 9, 4, 10, false}, {5, 9, 7, 10, false}, {5, 9, 6, 0, false}, {5, 0, 6, math.MaxUint64, true}, {5, math.MaxUint64, 6, math.MaxUint64, true},
		{5, math.MaxUint64, 6, 0, false}, {5, math.MaxUint64, 6, math.MaxUint64 - 1, false}, {5, 1 << 63, 6, 1<<63 - 1, false}, {5, 1<<63 - 1, 6, 1 << 63, true},
		{math.MaxUint64 - 1, 0, math.MaxUint64, 0, true}, {1<<63 - 1, 0, 1 << 63, 0, true}, {1 << 32, 0, 1, 0, false}, {0, 0, 1<<32 + 1, 0, false},
		// Numbers, unlike serials, don't go round.
		{math.MaxUint64, 0, 0, 0, false}, {math.MaxUint64, 0, 0, 1, false}, {math.MaxUint64, 0, math.MaxUint64, 0, false},
	}
	for _, x := range known {
		last, c := api.Change{No: x.no, Time: x.time}, api.Change{No: x.nextNo, Time: x.nextTime}
		for _, r := range []api.Route{{}, {P: of(0x0a000000, 8), Via: 3, Metric: 96, Seq: 9}, {P: api.Prefix{Addr: 1}, Via: 99, Metric: api.Endless}} {
			last.R, c.Gone = r, !c.Gone
			if got := Follows(last, c); got != x.want {
				t.Errorf("Follows(%v, %v) = %v", last, c, got)
			}
		}
	}
}

// P7.2: the document's example, and some more that are written out.
func TestEncodeKnown(t *testing.T) {
	ten, tenOne := of(0x0a000000, 8), of(0x0a010000, 16)
	first := api.Change{No: 1, R: api.Route{P: ten, Seq: 1}}
	goneTen := api.Change{No: 2, Time: 5, Gone: true, R: api.Route{P: ten}}
	known := []struct {
		last, c api.Change
		want    string
	}{
		{api.Change{}, first, "\x00\x80\x80\x0a\x00\x00\x01"},
		{api.Change{}, api.Change{No: 1}, "\x00\x00\x00\x00\x00"},
		{api.Change{}, api.Change{No: 1, Gone: true}, "\x00\x01"},
		// Behind one of its own prefix no byte of the address is told.
		{first, goneTen, "\x05\x80\x83"},
		{first, api.Change{No: 2, R: api.Route{P: ten, Via: 3, Metric: 96, Seq: 1}}, "\x00\x80\x82\x06\x80\xc0\x00"},
		// A longer one, and one that has its first byte alike; the serial goes round.
		{first, api.Change{No: 2, Time: 300, R: api.Route{P: tenOne, Via: 15, Metric: 65534, Seq: 0}}, "\x81\x2c\x81\x02\x01\x1e\xc1\xff\xfc\xc0\xff\xff"},
		// Below what was ahead.
		{api.Change{No: 7, Time: 9, R: api.Route{P: tenOne, Via: 15, Metric: 65534, Seq: 65535}}, api.Change{No: 8, Time: 9, R: api.Route{P: ten, Seq: 1}}, "\x00\x80\x82\x1d\xc1\xff\xfb\x02"},
		// Behind a gone one the whole route is told, and of the prefix still what is unlike.
		{goneTen, api.Change{No: 3, Time: 5, R: api.Route{P: tenOne, Via: 1, Metric: 2, Seq: 3}}, "\x00\x81\x02\x01\x02\x04\x03"},
	}
	for _, x := range known {
		if got := Encode(x.last, x.c); string(got) != x.want {
			t.Errorf("Encode(%v, %v) = %x, not %x", x.last, x.c, got, x.want)
		}
		wantBoth(t, x.last, x.c)
	}
}

// P7.2: Encode is as written, and Decode leads back, of any change behind any other one.
func TestBothOfAny(t *testing.T) {
	l := changes()
	for i, last := range l {
		last.No, last.Time = uint64(i*i), uint64(i*100)
		for j, c := range l {
			c.No, c.Time = last.No+1, last.Time+uint64(j*j)
			wantBoth(t, last, c)
		}
	}
}

// P7.2: a gone one ahead has neighbor 0, metric 0 and serial 0, whatever its route tells.
func TestBehindGone(t *testing.T) {
	for _, r := range routes(of(0x0a000000, 8)) {
		for _, c := range changes() {
			c.No = 1
			wantBoth(t, api.Change{Gone: true, R: r}, c)
		}
	}
}

// P7.2: numbers and times may be any.
func TestBothAtEdges(t *testing.T) {
	r := api.Route{P: of(0x0a000000, 8), Via: 1, Metric: 5, Seq: 9}
	edges := []uint64{0, 1, 127, 128, 1<<14 - 1, 1 << 14, 1<<56 - 1, 1 << 56, 1<<63 - 1, 1 << 63, math.MaxUint64 - 1, math.MaxUint64}
	for _, from := range edges {
		for _, to := range edges {
			for _, gone := range []bool{false, true} {
				last := api.Change{No: from - min(from, 1), Time: min(from, to), Gone: gone, R: r}
				if gone {
					last.R = api.Route{P: r.P}
				}
				c := api.Change{No: last.No + 1, Time: max(from, to), R: r}
				wantBoth(t, last, c)
				wantBoth(t, last, api.Change{No: c.No, Time: c.Time, Gone: true, R: api.Route{P: r.P}})
			}
		}
	}
}

// P7.2: of each neighbor, metric and serial the difference is told.
func TestBothOfEachRoute(t *testing.T) {
	p := of(0x0a000000, 8)
	for a := range api.MaxNodes {
		for b := range api.MaxNodes {
			wantBoth(t, api.Change{R: api.Route{P: p, Via: a}}, api.Change{No: 1, R: api.Route{P: p, Via: b}})
		}
	}
	for n := 0; n < 65535; n += 101 {
		for _, from := range []uint16{0, 1, 30000, 65534} {
			wantBoth(t, api.Change{R: api.Route{P: p, Metric: from}}, api.Change{No: 1, R: api.Route{P: p, Metric: uint16(n)}})
			wantBoth(t, api.Change{R: api.Route{P: p, Seq: from}}, api.Change{No: 1, R: api.Route{P: p, Seq: uint16(n)}})
		}
	}
}

// P7.2: bytes that are alike are counted from the first one on, whole ones, and no further than both have begun.
func TestAlike(t *testing.T) {
	known := []struct {
		last, p api.Prefix
		want    int
	}{
		{of(0, 0), of(0, 32), 0}, {of(0, 32), of(0, 0), 0}, {of(0, 1), of(0, 32), 1}, {of(0, 9), of(0, 32), 2}, {of(0, 32), of(0, 17), 3}, {of(0, 25), of(0, 32), 4},
		{of(0x0a010203, 32), of(0x0a010203, 32), 4}, {of(0x0a010203, 32), of(0x0a010202, 31), 3}, {of(0x0a010200, 24), of(0x0a010200, 32), 3},
		{of(0x0a010203, 32), of(0x0a020203, 32), 1}, {of(0x0a010203, 32), of(0x0b010203, 32), 0},
		// A byte that is begun is alike as a whole: its noughts are, too.
		{of(0xa0000000, 4), of(0xa0000000, 8), 1}, {of(0xa0000000, 4), of(0xa1000000, 8), 0}, {of(0x0a100000, 12), of(0x0a100000, 16), 2}, {of(0x0a100000, 12), of(0x0a110000, 16), 1},
	}
	for _, x := range known {
		last, c := api.Change{R: api.Route{P: x.last}}, api.Change{No: 1, Gone: true, R: api.Route{P: x.p}}
		want := headed(0, int(x.p.Len), x.want, 1, firstBytes(x.p)[x.want:])
		if got := Encode(last, c); string(got) != want {
			t.Errorf("Encode of %v behind %v = %x, not %x", x.p, x.last, got, want)
		}
		wantBoth(t, last, c)
	}
}

// P7.2: fewer bytes alike than there are tell no change, nor do more than both prefixes have begun, nor bytes of the address that are told though they are alike.
func TestDecodeAlike(t *testing.T) {
	route := "\x00\x00\x00"
	for _, l := range prefixes() {
		last := api.Change{R: api.Route{P: l}}
		for _, p := range prefixes() {
			own := firstBytes(p)
			for s := range shared(l, p) {
				wantNone(t, last, headed(0, int(p.Len), s, 1, own[s:]))
				wantNone(t, last, headed(0, int(p.Len), s, 0, own[s:]+route))
			}
			for s := min(len(own), len(firstBytes(l))) + 1; s < 8; s++ {
				for size := range 5 {
					wantNone(t, last, headed(0, int(p.Len), s, 1, own[:min(size, len(own))]))
					wantNone(t, last, headed(0, int(p.Len), s, 0, own[:min(size, len(own))]+route))
				}
			}
			for s := 1; s < 8; s++ {
				wantNone(t, last, headed(0, int(p.Len), s, 1, own))
			}
		}
	}
}

// P7.2: of all short texts Decode takes those alone that Encode makes of a change.
func TestDecodeAll(t *testing.T) {
	for _, p := range []api.Prefix{{}, of(0x0a000000, 8), of(0x0a010200, 24), of(0xffffffff, 32), of(0x50000000, 4)} {
		last := api.Change{No: 4, Time: 9, R: api.Route{P: p, Via: 1}}
		right := map[string]api.Change{}
		add := func(q api.Prefix) {
			c := api.Change{No: 5, Time: 9, Gone: true, R: api.Route{P: q}}
			right[written(last, c)] = c
		}
		for n := range 33 {
			add(of(p.Addr, n))
			for first := range 256 {
				if n <= 8 {
					add(of(uint32(first)<<24, n))
				}
			}
		}
		for size := range 3 {
			for n := range 1 << (8 * size) {
				q := "\x00" + string([]byte{byte(n), byte(n >> 8)}[:size])
				if c, ok := right[q]; !ok {
					wantNone(t, last, q)
				} else if got, e := Decode(last, []byte(q)); got != c || e != api.OK {
					t.Errorf("Decode(%v, %x) = %v, %d, not %v", last, q, got, e, c)
				}
			}
		}
	}
}

// P7.2: bytes that are cut anywhere, or have more behind them, tell no change.
func TestDecodeCut(t *testing.T) {
	l := changes()
	for i, last := range l {
		c := l[(i*37+5)%len(l)]
		c.No, c.Time = 1, uint64(i*i*i)
		p := []byte(written(last, c))
		for n := range p {
			wantNone(t, last, string(p[:n]))
			// What stood behind the cut is still there in memory, and doesn't count.
			if got, e := Decode(last, p[:n]); e == api.OK {
				t.Errorf("Decode(%v, %x) = %v", last, p[:n], got)
			}
		}
		for _, behind := range []string{"\x00", "\x01", "\xff", "\x00\x00\x00", string(p)} {
			wantNone(t, last, string(p)+behind)
		}
	}
	wantNone(t, api.Change{}, "")
	if c, e := Decode(api.Change{}, nil); c != (api.Change{}) || e == api.OK {
		t.Errorf("Decode of nil: %v, %d", c, e)
	}
}

// P7.2: a route that may not be is told by no bytes.
func TestDecodeRoute(t *testing.T) {
	for _, from := range []api.Route{{}, {Via: 15, Metric: 65534, Seq: 65535}, {Via: 7, Metric: 1000, Seq: 7}} {
		from.P = of(0x0a000000, 8)
		last := api.Change{R: from}
		tell := func(via, metric, seq string) string {
			return headed(0, 8, 1, 0, via+metric+seq)
		}
		for _, via := range []int{-1, -2, -16, 16, 17, 31, 255, 256, 272, 1 << 32, 1<<32 + 1, -1 << 32, 1 << 61, -1 << 61} {
			wantNone(t, last, tell(difference(via, from.Via), "\x00", "\x00"))
		}
		for _, metric := range []int{-1, -2, -65535, -65536, 65535, 65536, 65537, 131072, 1 << 32, -1 << 32, 1 << 61} {
			wantNone(t, last, tell("\x00", difference(metric, int(from.Metric)), "\x00"))
		}
		for _, n := range []uint64{65536, 65537, 131072, 1 << 32, 1 << 48, 1 << 63, math.MaxUint64} {
			wantNone(t, last, tell("\x00", "\x00", number(n)))
		}
		for _, n := range []uint64{1 << 63, 1<<63 + 1, math.MaxUint64 - 1, math.MaxUint64} {
			wantNone(t, last, tell(number(n), "\x00", "\x00"))
			wantNone(t, last, tell("\x00", number(n), "\x00"))
		}
		for _, long := range []string{"\x80\x00", "\x80\x01", "\xc0\x00\x00", "\xff\x00\x00\x00\x00\x00\x00\x00\x00"} {
			wantNone(t, last, tell(long, "\x00", "\x00"))
			wantNone(t, last, tell("\x00", long, "\x00"))
			wantNone(t, last, tell("\x00", "\x00", long))
		}
		// A route behind one that is gone is too much.
		wantNone(t, last, headed(0, 8, 1, 1, "\x00\x00\x00"))
	}
}

// P7.2: a prefix that may not be is told by no bytes.
func TestDecodePrefix(t *testing.T) {
	last := api.Change{}
	for n := range 32 {
		bytesOf := (n + 7) / 8
		for bit := n; bit < 8*bytesOf; bit++ {
			addr := make([]byte, bytesOf)
			addr[bit/8] = 0x80 >> (bit % 8)
			wantNone(t, last, headed(0, n, 0, 1, string(addr)))
			wantNone(t, last, headed(0, n, 0, 0, string(addr)+"\x00\x00\x00"))
		}
	}
	for _, n := range []int{33, 34, 40, 64, 255, 256, 257, 264, 288, 1 << 16, 1 << 32, 1 << 40} {
		for size := range 10 {
			for s := range 8 {
				wantNone(t, last, headed(0, n, s, 1, strings.Repeat("\x00", size)))
				wantNone(t, api.Change{R: api.Route{P: of(0, 32)}}, headed(0, n, s, 1, strings.Repeat("\x00", size)))
			}
		}
	}
	for _, head := range []uint64{1 << 63, 1<<63 + 1, 1 << 60, math.MaxUint64, math.MaxUint64 - 15, math.MaxUint64 - 14} {
		for size := range 10 {
			wantNone(t, last, "\x00"+number(head)+strings.Repeat("\x00", size))
		}
	}
	for _, p := range []string{"\x80\x00\x01", "\x00\x80\x01", "\xc0\x00\x00\x01", "\x00\xc0\x00\x01"} {
		wantNone(t, last, p)
	}
}

// P7.2: a time above all times, and a number behind the greatest one, aren't told: no such change follows.
func TestDecodeFollows(t *testing.T) {
	for _, time := range []uint64{1, 2, 300, 1 << 63, math.MaxUint64 - 1, math.MaxUint64} {
		last := api.Change{No: 3, Time: time}
		c := api.Change{No: 4, Time: math.MaxUint64, Gone: true}
		most := c.Time - time
		wantBoth(t, last, c)
		for _, more := range []uint64{1, 2, math.MaxUint64 - most} {
			if n := most + more; n > most {
				wantNone(t, last, number(n)+"\x01")
				wantNone(t, last, number(n)+"\x00\x00\x00\x00")
			}
		}
	}
	wantBoth(t, api.Change{No: math.MaxUint64 - 1}, api.Change{No: math.MaxUint64, Gone: true})
	wantNone(t, api.Change{No: math.MaxUint64}, "\x00\x01")
	wantNone(t, api.Change{No: math.MaxUint64}, "\x00\x00\x00\x00\x00")
}

// P7.2: whatever Decode takes is the change that follows, and is written so.
func TestDecodeMixed(t *testing.T) {
	n := uint32(5)
	next := func(below int) int {
		n = n*1664525 + 1013904223
		return int(n>>8) % below
	}
	l := changes()
	took := 0
	for range 100000 {
		last, c := l[next(len(l))], l[next(len(l))]
		last.Time = math.MaxUint64 - uint64(next(1000))
		c.No, c.Time = 1, last.Time+min(math.MaxUint64-last.Time, uint64(next(1000)))
		p := []byte(written(last, c))
		for range 1 + next(2) {
			p[next(len(p))] ^= byte(1 << next(8))
		}
		if next(4) == 0 {
			p = append(p, byte(next(256)))
		}
		got, e := Decode(last, p)
		if e != api.OK {
			wantNone(t, last, string(p))
			continue
		}
		took++
		if Right(got) != api.OK || !Follows(last, got) || written(last, got) != string(p) {
			t.Fatalf("Decode(%v, %x) = %v", last, p, got)
		}
	}
	if took < 1000 {
		t.Errorf("Decode took %d", took)
	}
}

// P7.2: a history leads back change by change.
func TestHistory(t *testing.T) {
	var told [][]byte
	l := changes()
	last := api.Change{}
	for i := range l {
		l[i].No, l[i].Time = last.No+1, last.Time+uint64(i%3)
		told = append(told, Encode(last, l[i]))
		last = l[i]
	}
	last = api.Change{}
	for i, p := range told {
		c, e := Decode(last, p)
		if c != l[i] || e != api.OK {
			t.Fatalf("change %d: %v, %d, not %v", i, c, e, l[i])
		}
		last = c
	}
}

// The rule of memory: nothing that is handed in is changed or kept, and every answer is its own.
func TestMemory(t *testing.T) {
	last := api.Change{R: api.Route{P: of(0x0a000000, 8), Via: 2}}
	c := api.Change{No: 1, R: api.Route{P: of(0x0a010203, 32), Via: 1, Metric: 7, Seq: 9}}
	gone := api.Change{No: 1, Gone: true, R: api.Route{P: c.R.P}}
	for _, x := range []api.Change{c, gone} {
		want := written(last, x)
		one, two := Encode(last, x), Encode(last, x)
		three, four := append(one, 'x'), append(one, 'y')
		clear(two)
		if string(one) != want || four[len(one)] != 'y' || string(three[:len(one)]) != want {
			t.Errorf("Encode: %x, %x, %x", one, three, four)
		}
		p := append([]byte(want), "behind"...)
		got, _ := Decode(last, p[:len(want)])
		if string(p) != want+"behind" {
			t.Errorf("Decode wrote: %x", p)
		}
		clear(p)
		if got != x {
			t.Errorf("Decode: %v", got)
		}
	}
}

// P1: every call ends and none panics, whatever it is given.
func TestAnything(t *testing.T) {
	var l []api.Change
	for _, p := range []api.Prefix{{}, {Addr: 0xffffffff}, {Addr: 0xffffffff, Len: 33}, {Addr: 0x0a010203, Len: 200}, {Len: 255}, of(0x0a010203, 32)} {
		for _, r := range []api.Route{{}, {Via: -1}, {Via: math.MinInt, Metric: 65535, Seq: 65535}, {Via: math.MaxInt, Metric: 1, Seq: 1}} {
			r.P = p
			for _, no := range []uint64{0, 1, math.MaxUint64} {
				l = append(l, api.Change{No: no, Time: no, R: r}, api.Change{No: no, Time: math.MaxUint64 - no, Gone: true, R: r})
			}
		}
	}
	for _, last := range l {
		for _, c := range l {
			Right(c)
			Follows(last, c)
			p := Encode(last, c)
			if got, e := Decode(last, p); e != api.OK && (got != api.Change{}) {
				t.Errorf("Decode(%v, %x) = %v, %d", last, p, got, e)
			}
		}
		for first := range 256 {
			for _, behind := range []string{"", "\x00", "\xff", "\x82\x0f\x01\x01\x01\x01", strings.Repeat("\xff", 20), strings.Repeat("\x00", 20)} {
				Decode(last, []byte(string([]byte{byte(first)})+behind))
				Decode(last, []byte("\x00"+string([]byte{byte(first)})+behind))
			}
		}
	}
	if _, e := Decode(api.Change{}, bytes.Repeat([]byte{0}, 1<<20)); e == api.OK {
		t.Error("Decode of a million noughts")
	}
}

// P2: what was asked ahead changes no answer.
func TestAnswersHangOnNothingElse(t *testing.T) {
	last := api.Change{No: 1, R: api.Route{P: of(0x0a000000, 8)}}
	c := api.Change{No: 2, Time: 5, R: api.Route{P: of(0x0a010000, 16), Via: 3, Metric: 96, Seq: 65535}}
	p := Encode(last, c)
	Decode(c, p)
	Decode(last, []byte("\xff"))
	Encode(c, last)
	if again := Encode(last, c); !bytes.Equal(again, p) {
		t.Errorf("Encode twice: %x, %x", p, again)
	}
	wantBoth(t, last, c)
}
