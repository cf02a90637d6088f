package table

import (
	"math"
	"slices"
	"strings"
	"testing"

	"milestone/api"
)

// number is a number in the form of the document, told another way than package coin does.
func number(n uint64) string {
	whole := []byte{byte(n >> 56), byte(n >> 48), byte(n >> 40), byte(n >> 32), byte(n >> 24), byte(n >> 16), byte(n >> 8), byte(n)}
	for size := 1; size <= 8; size++ {
		if n < 1<<(7*size) {
			p := whole[8-size:]
			p[0] |= []byte{0, 0x80, 0xc0, 0xe0, 0xf0, 0xf8, 0xfc, 0xfe}[size-1]
			return string(p)
		}
	}
	return "\xff" + string(whole)
}

// numbers are some, one behind the other.
func numbers(l ...uint64) string {
	var s strings.Builder
	for _, n := range l {
		s.WriteString(number(n))
	}
	return s.String()
}

// written is a table in the form of the document, made without the package.
func written(no, time uint64, rows []api.Row) string {
	l := []uint64{no, time, uint64(len(rows))}
	for _, row := range rows {
		l = append(l, uint64(row.P.Addr), uint64(row.P.Len), uint64(row.M.Seq), uint64(row.M.Metric))
		if !row.Has {
			l = append(l, 0)
			continue
		}
		l = append(l, uint64(row.R.Via)+1, uint64(row.R.Metric), uint64(row.R.Seq))
	}
	return numbers(l...)
}

// taken takes numbers from a text as long as there are any that are written as they should be; false: something is left.
func taken(s string) ([]uint64, bool) {
	var l []uint64
	for s != "" {
		size := 1
		for size < 9 && s[0]>>(8-size)&1 == 1 {
			size++
		}
		if len(s) < size {
			return l, false
		}
		var n uint64
		if size < 9 {
			n = uint64(s[0]) & (1<<(8-size) - 1)
		}
		for _, b := range []byte(s[1:size]) {
			n = n<<8 | uint64(b)
		}
		if number(n) != s[:size] {
			return l, false
		}
		l, s = append(l, n), s[size:]
	}
	return l, true
}

// read is the table of a text, by the words of P8.2; false: there is none.
func read(s string) (uint64, uint64, []api.Row, bool) {
	l, ok := taken(s)
	if !ok || len(l) < 3 {
		return 0, 0, nil, false
	}
	no, time, n, l := l[0], l[1], l[2], l[3:]
	var rows []api.Row
	for ; n > 0; n-- {
		if len(l) < 5 || l[0] > math.MaxUint32 || l[1] > 32 || l[2] > 65535 || l[3] >= api.Endless || l[4] > 1<<63 {
			return 0, 0, nil, false
		}
		p := api.Prefix{Addr: uint32(l[0]), Len: uint8(l[1])}
		row := api.Row{P: p, R: api.Route{P: p}, M: api.Mark{Seq: uint16(l[2]), Metric: uint16(l[3])}}
		if p != of(p.Addr, int(p.Len)) || len(rows) > 0 && byPrefix(rows[len(rows)-1].P, p) >= 0 {
			return 0, 0, nil, false
		}
		via := l[4]
		l = l[5:]
		if via > 0 {
			if len(l) < 2 || l[0] >= api.Endless || l[1] > 65535 {
				return 0, 0, nil, false
			}
			row.Has, row.R.Via, row.R.Metric, row.R.Seq = true, int(via-1), uint16(l[0]), uint16(l[1])
			l = l[2:]
		}
		rows = append(rows, row)
	}
	return no, time, rows, len(l) == 0
}

// wantCoins asks that a table is as written, and comes back.
func wantCoins(test *testing.T, t *Table) {
	test.Helper()
	no, time := t.Last()
	want := written(no, time, t.Rows())
	if got := t.Encode(); string(got) != want {
		test.Fatalf("Encode of %v: %x, not %x", t.Rows(), got, want)
	}
	back, e := Decode([]byte(want))
	if e != api.OK || back == nil {
		test.Fatalf("Decode(%x): %d", want, e)
	}
	wantSame(test, back, t)
}

// wantNone asks that bytes are no table.
func wantNone(test *testing.T, s string) {
	test.Helper()
	t, e := Decode([]byte(s))
	if t != nil || e != api.ErrForm && e != api.ErrShort && e != api.ErrLong {
		test.Errorf("Decode(%x) = %v, %d", s, t.Rows(), e)
	}
}

// wantRead asks that Decode takes bytes as they are read by the words of P8.2; whether it took them.
func wantRead(test *testing.T, s string) bool {
	test.Helper()
	no, time, rows, ok := read(s)
	if !ok {
		wantNone(test, s)
		return false
	}
	t, e := Decode([]byte(s))
	gotNo, gotTime := t.Last()
	if e != api.OK || gotNo != no || gotTime != time || !slices.Equal(t.Rows(), rows) || string(t.Encode()) != s {
		test.Errorf("Decode(%x) = %d, %d, %v, %d", s, gotNo, gotTime, t.Rows(), e)
	}
	return true
}

// P8.2: tables that are written out.
func TestEncodeKnown(test *testing.T) {
	x := tell(test)
	if got := x.t.Encode(); string(got) != "\x00\x00\x00" {
		test.Errorf("Encode of a new one: %x", got)
	}
	x.time = 300
	x.put(ten, 0, 10, 5)
	if got, want := x.t.Encode(), "\x01\x81\x2c\x01\xea\x00\x00\x00\x08\x05\x0a\x01\x0a\x05"; string(got) != want {
		test.Errorf("Encode of one row: %x, not %x", got, want)
	}
	x.put(ten, 15, 200, 5)
	x.put(all, 2, 0, 65535)
	x.gone(all)
	want := "\x04\x81\x2c\x02" + // number 4, time 300, two rows
		"\x00\x00\xc0\xff\xff\x00\x00" + // 0.0.0.0/0: mark (65535, 0), no route
		"\xea\x00\x00\x00\x08\x05\x0a\x10\x80\xc8\x05" // 10.0.0.0/8: mark (5, 10), by 15, metric 200, serial 5
	if got := x.t.Encode(); string(got) != want {
		test.Errorf("Encode: %x, not %x", got, want)
	}
	wantCoins(test, x.t)
	wantCoins(test, New())
	wantCoins(test, full(test).t)
}

// P8.2: Decode leads back, and what is told to the table behind that goes on from its last change.
func TestDecodeGoesOn(test *testing.T) {
	x := full(test)
	x.time = 77
	x.gone(many(3))
	t, e := Decode(x.t.Encode())
	if e != api.OK {
		test.Fatalf("Decode: %d", e)
	}
	y := &teller{test: test, t: t, time: 77}
	no, _ := t.Last()
	wantRefused(test, t, api.Change{No: no, Time: 77, R: api.Route{P: many(4)}}, api.ErrOrder)
	wantRefused(test, t, api.Change{No: no + 1, Time: 76, R: api.Route{P: many(4)}}, api.ErrOrder)
	wantRefused(test, t, api.Change{No: no + 1, Time: 77, Gone: true, R: goneRoute(many(3))}, api.ErrNone)
	wantRefused(test, t, api.Change{No: no + 1, Time: 77, R: api.Route{P: eleven}}, api.ErrFull)
	for _, z := range []*teller{x, y} {
		z.put(many(3), 1, 900, 1)
		z.put(many(4), 1, 0, 1)
		z.gone(many(5))
	}
	wantSame(test, x.t, y.t)
}

// P8.2: numbers and times may be any, and rows at their edges.
func TestDecodeEdges(test *testing.T) {
	edges := []uint64{0, 1, 127, 128, 1<<14 - 1, 1 << 14, 1<<56 - 1, 1 << 56, 1 << 63, math.MaxUint64}
	for _, no := range edges {
		for _, time := range edges {
			if !wantRead(test, numbers(no, time, 0)) || !wantRead(test, numbers(no, time, 1, 0, 0, 0, 0, 0)) {
				test.Errorf("Decode of number %d, time %d", no, time)
			}
		}
	}
	for n := range 33 {
		for _, addr := range []uint32{0, 0xffffffff, 0x0a010203, 0x80000001} {
			p := of(addr, n)
			for _, m := range []api.Mark{{}, {Seq: 65535, Metric: 65534}, {Seq: 127, Metric: 128}} {
				for _, r := range []api.Route{{P: p}, {P: p, Via: 15, Metric: 65534, Seq: 65535}, {P: p, Via: 7, Metric: 127, Seq: 128}} {
					for _, has := range []bool{true, false} {
						s := written(1, 2, []api.Row{{P: p, Has: has, R: r, M: m}})
						if !wantRead(test, s) {
							test.Errorf("Decode(%x): none", s)
						}
					}
				}
			}
		}
	}
}

// row is 10.0.0.0/8 as numbers.
func row(behind ...uint64) []uint64 {
	return append([]uint64{0x0a000000, 8}, behind...)
}

// P8.2: metrics of no way, and numbers that are too great, are no table's.
func TestDecodeWrongRow(test *testing.T) {
	right := row(5, 6, 7, 8, 9)
	if !wantRead(test, numbers(append([]uint64{1, 2, 1}, right...)...)) {
		test.Error("Decode of a right row")
	}
	for i := range right {
		if i == 4 {
			continue // The neighbor: P8.2 asks nothing of it.
		}
		for _, n := range []uint64{65535, 65536, 65537, 1 << 32, 1<<32 + 0x0a000000, 1<<32 + 8, 1<<32 + 5, 1<<48 + 6, math.MaxUint64, 1<<63 + 8} {
			if serial := i == 2 || i == 6; serial && n == 65535 {
				continue
			}
			l := slices.Clone(right)
			l[i] = n
			wantNone(test, numbers(append([]uint64{1, 2, 1}, l...)...))
		}
	}
	// The mark's metric counts of a row without a route too.
	wantNone(test, numbers(append([]uint64{1, 2, 1}, row(5, api.Endless, 0)...)...))
	wantNone(test, numbers(append([]uint64{1, 2, 1}, row(65536, 6, 0)...)...))
	for _, via := range []uint64{1<<63 + 1, 1<<63 + 2, math.MaxUint64} {
		wantNone(test, numbers(append([]uint64{1, 2, 1}, row(5, 6, via, 8, 9)...)...))
	}
}

// P8.2: more rows than a table can be told by changes, and neighbors that are no nodes, are rows nevertheless.
func TestDecodeAsksNoMore(test *testing.T) {
	var rows []api.Row
	for i := range 2 * api.MaxRoutes {
		p := of(uint32(i)<<20, 12)
		rows = append(rows, api.Row{P: p, Has: true, R: api.Route{P: p, Via: i}})
	}
	for _, n := range []int{api.MaxRoutes, api.MaxRoutes + 1, 2 * api.MaxRoutes} {
		if !wantRead(test, written(3, 4, rows[:n])) {
			test.Errorf("Decode of %d rows: none", n)
		}
	}
	// Nor need a mark be that of the best route, or a number be that of so many changes.
	if !wantRead(test, numbers(append([]uint64{0, 0, 1}, row(5, 100, 1, 3, 9)...)...)) {
		test.Error("Decode of a mark that the route is nearer than: none")
	}
}

// P8.2: prefixes that may not be, and such as don't rise.
func TestDecodePrefixes(test *testing.T) {
	one := func(addr, n uint64) []uint64 { return []uint64{addr, n, 1, 1, 0} }
	for n := range uint64(33) {
		for bit := n; bit < 32; bit++ {
			wantNone(test, numbers(append([]uint64{1, 2, 1}, one(1<<(31-bit), n)...)...))
		}
	}
	for _, n := range []uint64{33, 34, 64, 128, 255, 256, 264, 288, 1<<32 + 8} {
		wantNone(test, numbers(append([]uint64{1, 2, 1}, one(0, n)...)...))
		wantNone(test, numbers(append([]uint64{1, 2, 1}, one(0x0a000000, n)...)...))
	}
	rising := []api.Prefix{all, of(0, 32), ten, of(0x0a000000, 9), tenOne, eleven, of(0x80000000, 1), of(0xffffffff, 32)}
	for i, a := range rising {
		for j, b := range rising {
			l := append([]uint64{1, 2, 2}, one(uint64(a.Addr), uint64(a.Len))...)
			l = append(l, one(uint64(b.Addr), uint64(b.Len))...)
			if took := wantRead(test, numbers(l...)); took != (i < j) {
				test.Errorf("%v ahead of %v: %v", a, b, took)
			}
			// The third one too must stand behind the second one, not only behind the first.
			l[2] = 3
			l = append(l, one(uint64(a.Addr), uint64(a.Len))...)
			wantNone(test, numbers(l...))
		}
	}
}

// P8.2: another number of rows than there are.
func TestDecodeCount(test *testing.T) {
	x := full(test)
	no, time := x.t.Last()
	for _, size := range []int{0, 1, 2, 3, api.MaxRoutes} {
		rows := x.t.Rows()[:size]
		head := len(numbers(no, time, uint64(size)))
		behind := written(no, time, rows)[head:]
		for _, n := range []uint64{0, 1, 2, 3, 4, 255, 256, 257, 1 << 20, 1 << 40, 1 << 63, math.MaxUint64} {
			if n != uint64(size) {
				wantNone(test, numbers(no, time, n)+behind)
			}
		}
	}
}

// P8.2: bytes that are cut anywhere, or have more behind them.
func TestDecodeCut(test *testing.T) {
	x := tell(test)
	x.time = 1 << 40
	x.put(ten, 15, 65534, 65535)
	x.put(all, 1, 5, 5)
	x.put(of(0xffffffff, 32), 0, 0, 0)
	x.gone(all)
	for _, t := range []*Table{x.t, New(), full(test).t} {
		p := t.Encode()
		for n := range p {
			wantNone(test, string(p[:n]))
			// What stood behind the cut is still there in memory, and doesn't count.
			if got, e := Decode(p[:n]); got != nil || e == api.OK {
				test.Errorf("Decode(%x) = %v, %d", p[:n], got, e)
			}
		}
		for _, behind := range []string{"\x00", "\x01", "\xff", "\x80", "\x00\x00\x00", string(p)} {
			wantNone(test, string(p)+behind)
		}
	}
	if t, e := Decode(nil); t != nil || e == api.OK {
		test.Errorf("Decode of nil: %v, %d", t, e)
	}
}

// P8.2: numbers that are written longer than they need be.
func TestDecodeLong(test *testing.T) {
	l := append([]uint64{1, 2, 1}, row(5, 6, 7, 8, 9)...)
	for i, n := range l {
		longer := []string{"\xf0\x0a\x00\x00\x00", "\xff\x00\x00\x00\x00\x0a\x00\x00\x00"}
		if n < 128 {
			own := string([]byte{byte(n)})
			longer = []string{"\x80" + own, "\xc0\x00" + own, "\xff\x00\x00\x00\x00\x00\x00\x00" + own}
		}
		for _, long := range longer {
			wantNone(test, numbers(l[:i]...)+long+numbers(l[i+1:]...))
		}
	}
}

// P8.2: of bytes that are off by one Decode takes those alone that are a table's.
func TestDecodeNear(test *testing.T) {
	x := tell(test)
	x.time = 200
	x.put(ten, 3, 96, 5)
	x.put(of(0x0a400000, 10), 0, 5, 300)
	x.put(all, 1, 0, 0)
	x.gone(all)
	took := 0
	check := func(s string) {
		if wantRead(test, s) {
			took++
		}
	}
	s := string(x.t.Encode())
	for i := range len(s) {
		check(s[:i] + s[i+1:])
		for b := range 256 {
			check(s[:i] + string([]byte{byte(b)}) + s[i+1:])
			check(s[:i] + string([]byte{byte(b)}) + s[i:])
		}
	}
	if took < 500 {
		test.Errorf("Decode took %d", took)
	}
}

// P8.2: all short texts.
func TestDecodeAll(test *testing.T) {
	for n := range 1 << 16 {
		for _, s := range []string{string([]byte{byte(n)}), string([]byte{byte(n), byte(n >> 8)}), string([]byte{byte(n), 0, byte(n >> 8)}), "\x01\x01\x01" + string([]byte{byte(n), byte(n >> 8), 0, 0, 0})} {
			wantRead(test, s)
		}
	}
}

// The rule of memory: what is handed in isn't changed, nor is it what a table stands on.
func TestDecodeMemory(test *testing.T) {
	x := full(test)
	want := string(x.t.Encode())
	p := []byte(want)
	t, _ := Decode(p)
	if string(p) != want {
		test.Error("Decode wrote")
	}
	clear(p)
	wantSame(test, t, x.t)
}

// P1: Decode ends, whatever it is given, and soon.
func TestDecodeAnything(test *testing.T) {
	for _, p := range [][]byte{nil, {}, {0xff}, slices.Repeat([]byte{0}, 1<<20), slices.Repeat([]byte{0xff}, 1<<20), slices.Repeat([]byte{1}, 1<<20)} {
		wantNone(test, string(p))
		wantNone(test, numbers(1, 1, math.MaxUint64)+string(p))
	}
}
