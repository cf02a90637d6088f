package frame

import (
	"bytes"
	"encoding/binary"
	"hash/crc32"
	"math"
	"strings"
	"testing"

	"milestone/api"
)

// castagnoli is the table of the library's CRC-32C.
var castagnoli = crc32.MakeTable(crc32.Castagnoli)

// withSum is some bytes, and their sum behind them.
func withSum(p string) string {
	return string(binary.LittleEndian.AppendUint32([]byte(p), crc32.Checksum([]byte(p), castagnoli)))
}

// number is a number below 2^28 in the form of the document, told another way than package coin does.
func number(n int) string {
	switch {
	case n < 1<<7:
		return string([]byte{byte(n)})
	case n < 1<<14:
		return string([]byte{0x80 | byte(n>>8), byte(n)})
	case n < 1<<21:
		return string([]byte{0xc0 | byte(n>>16), byte(n >> 8), byte(n)})
	}
	return string([]byte{0xe0 | byte(n>>24), byte(n >> 16), byte(n >> 8), byte(n)})
}

// written is a frame in the form of the document, made without the package.
func written(kind byte, p string) string {
	return withSum(number(len(p)) + string([]byte{kind}) + p)
}

// mixed are so many bytes of all kinds.
func mixed(size int) string {
	p := make([]byte, size)
	n := uint32(size)
	for i := range p {
		n = n*1664525 + 1013904223
		p[i] = byte(n >> 24)
	}
	return string(p)
}

// lengths are those at which a number grows by a byte, those about them, and some more; none is above MaxRecord.
var lengths = []int{0, 1, 2, 3, 4, 5, 9, 100, 126, 127, 128, 129, 255, 256, 257, 300, 1<<14 - 1, 1 << 14, 1<<14 + 1, 65535, 65536, 1<<20 - 1, 1 << 20}

// few are frames of many kinds, none of them long.
func few() []string {
	var l []string
	for i, size := range []int{0, 1, 2, 5, 127, 128, 300, 0, 3} {
		l = append(l, written(byte(i*37), mixed(size)))
	}
	return append(l, written(0, ""), written(255, "\xff\xff\xff"), written('T', strings.Repeat("\x00", 20)), written(1, written(2, "inner")))
}

// wantFrame asks that One finds this frame at this place.
func wantFrame(t *testing.T, p string, at int, kind byte, what string, end int) {
	t.Helper()
	got, e := One([]byte(p), at)
	if e != api.OK || got.Kind != kind || string(got.P) != what || got.At != at || got.End != end {
		t.Errorf("One at %d of %d bytes: kind %d, %d bytes, from %d to %d, error %d", at, len(p), got.Kind, len(got.P), got.At, got.End, e)
	}
}

// wantNone asks that One answers this error, and nothing beside it.
func wantNone(t *testing.T, p string, at int, want api.Errno) {
	t.Helper()
	got, e := One([]byte(p), at)
	if e != want || got.Kind != 0 || len(got.P) != 0 || got.At != 0 || got.End != 0 {
		t.Errorf("One at %d of %d bytes (%x..): %v, error %d, not %d", at, len(p), p[:min(12, len(p))], got, e, want)
	}
}

// wantScan asks that Scan tells these frames, one behind the other, and this error behind them.
func wantScan(t *testing.T, p string, frames []string, want api.Errno) {
	t.Helper()
	items, at, e := Scan([]byte(p))
	if e != want || len(items) != len(frames) || at != len(strings.Join(frames, "")) {
		t.Fatalf("Scan of %d bytes: %d frames, up to %d, error %d, not %d frames, error %d", len(p), len(items), at, e, len(frames), want)
	}
	begin := 0
	for i, item := range items {
		if item.At != begin || item.End != begin+len(frames[i]) || written(item.Kind, string(item.P)) != frames[i] {
			t.Fatalf("Scan of %d bytes: frame %d: kind %d, %d bytes, from %d to %d", len(p), i, item.Kind, len(item.P), item.At, item.End)
		}
		begin = item.End
	}
}

// P6.1: Pack is the number of bytes, the kind, the bytes, and the sum of all that, its lowest byte first.
func TestPack(t *testing.T) {
	known := []struct {
		kind    byte
		p, want string
	}{
		{0x68, "hi", "\x02\x68hi\x5e\x83\x8c\xed"},
		{0, "", "\x00\x00\xd2\x77\x61\xf1"},
		{0x4c, "\x01\x00\x00", "\x03\x4c\x01\x00\x00\x4d\x59\xc0\x8e"},
	}
	for _, x := range known {
		if got := Pack(x.kind, []byte(x.p)); string(got) != x.want {
			t.Errorf("Pack(%x, %q) = %x, not %x", x.kind, x.p, got, x.want)
		}
	}
	for _, size := range lengths {
		for _, kind := range []byte{0, 1, 'a', 0x80, 255} {
			p := mixed(size)
			if got := Pack(kind, []byte(p)); string(got) != written(kind, p) {
				t.Errorf("Pack(%d, of %d bytes): %x..", kind, size, got[:6])
			}
		}
	}
	for kind := range 256 {
		if got := Pack(byte(kind), nil); string(got) != written(byte(kind), "") || string(Pack(byte(kind), []byte{})) != string(got) {
			t.Errorf("Pack(%d, nothing) = %x", kind, got)
		}
	}
}

// P6.1: the sum's lowest byte goes first, and it sums the number and the kind, too.
func TestPackSum(t *testing.T) {
	p := Pack('k', []byte("some bytes"))
	body := p[:len(p)-4]
	sum := crc32.Checksum(body, castagnoli)
	for i, b := range p[len(body):] {
		if b != byte(sum>>(8*i)) {
			t.Errorf("byte %d of the sum %x is %x", i, sum, b)
		}
	}
	if string(body) != "\x0aksome bytes" {
		t.Errorf("ahead of the sum: %x", body)
	}
}

// P6.1: Pack has no limit of its own; it is One that meets MaxRecord.
func TestPackBeyondMaxRecord(t *testing.T) {
	for _, size := range []int{api.MaxRecord + 1, 1<<21 - 1, 1 << 21} {
		p := mixed(size)
		got := Pack('x', []byte(p))
		if string(got) != written('x', p) || len(got) != Size(size) {
			t.Errorf("Pack of %d bytes: %d bytes, Size %d", size, len(got), Size(size))
		}
	}
}

// P6.1: Size is how many bytes Pack makes of so many, 0 below 0.
func TestSize(t *testing.T) {
	known := map[int]int{
		0: 6, 1: 7, 2: 8, 127: 133, 128: 135, 1<<14 - 1: 1<<14 + 6, 1 << 14: 1<<14 + 8, 1 << 20: 1<<20 + 8, 1<<21 - 1: 1<<21 + 7,
		1 << 21: 1<<21 + 9, 1<<28 - 1: 1<<28 + 8, 1 << 28: 1<<28 + 10, math.MaxInt32: math.MaxInt32 + 10,
		-1: 0, -2: 0, -6: 0, -7: 0, -128: 0, math.MinInt32: 0, math.MinInt: 0, math.MinInt + 1: 0,
	}
	for n, want := range known {
		if got := Size(n); got != want {
			t.Errorf("Size(%d) = %d, not %d", n, got, want)
		}
	}
	for _, n := range lengths {
		if got := Size(n); got != len(Pack(7, make([]byte, n))) || got != len(written(7, mixed(n))) {
			t.Errorf("Size(%d) = %d", n, got)
		}
	}
}

// P6.1: One finds the frame that begins at a place, whatever stands ahead of it and behind it.
func TestOne(t *testing.T) {
	for _, size := range lengths {
		for _, kind := range []byte{0, 'a', 255} {
			p := mixed(size)
			f := written(kind, p)
			for _, ahead := range []string{"", "\x00", "\xff\xff", "some bytes", written('z', "another")} {
				for _, behind := range []string{"", "\x00", "\xff", written('z', "")} {
					wantFrame(t, ahead+f+behind, len(ahead), kind, p, len(ahead)+len(f))
				}
			}
		}
	}
	inner := written(2, "inner")
	outer := written(1, "ahead "+inner)
	wantFrame(t, outer, 0, 1, "ahead "+inner, len(outer))
	wantFrame(t, outer, 8, 2, "inner", 8+len(inner))
}

// P6.1: ErrArg where there is no such place, ahead of all else; the end is one, at which a number is cut.
func TestOneArg(t *testing.T) {
	f := written('a', "hi")
	for _, p := range []string{"", "\x00", f, f + "\xff", f + f, "\xff\xff\xff\xff\xff\xff\xff\xff\xff\xff"} {
		for _, at := range []int{-1, -2, -len(f), math.MinInt, math.MinInt32, len(p) + 1, len(p) + 2, len(p) + 99, math.MaxInt32, math.MaxInt, math.MaxInt - 1} {
			wantNone(t, p, at, api.ErrArg)
		}
		wantNone(t, p, len(p), api.ErrShort)
	}
	if _, e := One(nil, 0); e != api.ErrShort {
		t.Errorf("One of nil at 0: %d", e)
	}
	if _, e := One(nil, 1); e != api.ErrArg {
		t.Errorf("One of nil at 1: %d", e)
	}
	// What has room behind its end has no place there.
	p := []byte(f + f)
	if _, e := One(p[:len(f)], len(f)+1); e != api.ErrArg {
		t.Errorf("One behind the end: %d", e)
	}
	if _, e := One(p[:len(f)], len(f)); e != api.ErrShort {
		t.Errorf("One at the end: %d", e)
	}
}

// P6.1: ErrShort of a frame that is cut anywhere, in its number, its bytes or its sum; bytes behind the end don't count.
func TestOneShort(t *testing.T) {
	for _, f := range few() {
		for _, ahead := range []string{"", "ahead"} {
			whole := []byte(ahead + f)
			for n := len(ahead); n < len(whole); n++ {
				wantNone(t, string(whole[:n]), len(ahead), api.ErrShort)
				if _, e := One(whole[:n], len(ahead)); e != api.ErrShort {
					t.Errorf("One of %d of %d bytes: %d", n, len(whole), e)
				}
			}
		}
	}
	most := written('m', mixed(api.MaxRecord))
	for _, n := range []int{0, 1, 2, 3, 4, 5, 1000, api.MaxRecord, len(most) - 5, len(most) - 4, len(most) - 1} {
		wantNone(t, most[:n], 0, api.ErrShort)
	}
}

// P6.1: ErrShort goes ahead of another sum: what is cut isn't summed.
func TestOneShortAheadOfForm(t *testing.T) {
	f := written('a', "hello")
	for i := 1; i < len(f); i++ {
		p := []byte(f)
		p[i] ^= 0x10
		for n := i + 1; n < len(p); n++ {
			wantNone(t, string(p[:n]), 0, api.ErrShort)
		}
		wantNone(t, string(p), 0, api.ErrForm)
	}
}

// P6.1: ErrForm of another sum: no bit of the kind, the bytes or the sum can be another one.
func TestOneForm(t *testing.T) {
	for _, f := range few() {
		numberSize := 1
		if f[0] >= 0x80 {
			numberSize = 2
		}
		for i := numberSize; i < len(f); i++ {
			for bit := range 8 {
				p := []byte(f)
				p[i] ^= 1 << bit
				wantNone(t, string(p), 0, api.ErrForm)
				wantNone(t, "ahead"+string(p)+"behind", 5, api.ErrForm)
			}
		}
	}
}

// P6.1: the number is summed, too: of another one that leads to as many bytes or fewer, the sum is another one.
func TestOneNumberIsSummed(t *testing.T) {
	p := mixed(100)
	for n := range 100 {
		wantNone(t, number(n)+written('a', p)[1:], 0, api.ErrForm)
	}
	// A sum of kind and bytes alone, without the number, isn't the sum.
	wantNone(t, "\x02"+withSum("ahi"), 0, api.ErrForm)
	// Neither are the highest byte first, nor the noughts of no sum.
	f := []byte(written('a', "hi"))
	s := f[len(f)-4:]
	s[0], s[1], s[2], s[3] = s[3], s[2], s[1], s[0]
	wantNone(t, string(f), 0, api.ErrForm)
	wantNone(t, "\x02ahi\x00\x00\x00\x00", 0, api.ErrForm)
}

// P6.1: coin.Get's errors of the number: ErrForm if it could be shorter, though the sum is right.
func TestOneNumberForm(t *testing.T) {
	for _, n := range []string{"\x80\x02", "\xc0\x00\x02", "\xe0\x00\x00\x02", "\xff\x00\x00\x00\x00\x00\x00\x00\x02"} {
		wantNone(t, withSum(n+"ahi"), 0, api.ErrForm)
		wantNone(t, n, 0, api.ErrForm)
		for k := range len(n) {
			wantNone(t, n[:k], 0, api.ErrShort)
		}
	}
	// It goes ahead of ErrLong: a number above MaxRecord that could be shorter.
	wantNone(t, "\xe0\x10\x00\x01", 0, api.ErrForm)
	wantNone(t, "\xff\x00\x00\x00\x00\x00\x10\x00\x01", 0, api.ErrForm)
	wantNone(t, "\xff\x00\xff\xff\xff\xff\xff\xff\xff", 0, api.ErrForm)
}

// P6.1: ErrLong above MaxRecord, whether the rest is there or not; MaxRecord itself works.
func TestOneLong(t *testing.T) {
	p := mixed(api.MaxRecord + 1)
	most := written('m', p[:api.MaxRecord])
	wantFrame(t, most, 0, 'm', p[:api.MaxRecord], len(most))
	wantFrame(t, "ahead"+most+"behind", 5, 'm', p[:api.MaxRecord], 5+len(most))
	for _, long := range []string{written('m', p), written('m', mixed(1<<21))} {
		wantNone(t, long, 0, api.ErrLong)
		wantNone(t, "ahead"+long+"behind", 5, api.ErrLong)
		wantNone(t, long[:len(long)-1]+"x", 0, api.ErrLong)
		wantNone(t, long[:100], 0, api.ErrLong)
	}
	wantNone(t, number(api.MaxRecord), 0, api.ErrShort)
	wantNone(t, number(api.MaxRecord+1), 0, api.ErrLong)
	wantNone(t, number(api.MaxRecord + 1)[:2], 0, api.ErrShort)
	for _, n := range []string{
		"\xf0\x80\x00\x00\x00", "\xf0\xff\xff\xff\xff", "\xf1\x00\x00\x00\x02", // about 2^31 and 2^32
		"\xfe\xff\xff\xff\xff\xff\xff\xff", "\xff\x01\x00\x00\x00\x00\x00\x00\x00",
		"\xff\x7f\xff\xff\xff\xff\xff\xff\xff", "\xff\x80\x00\x00\x00\x00\x00\x00\x00", "\xff\x80\x00\x00\x00\x00\x00\x00\x02", // about 2^63: as an int they are below 0
		"\xff\xff\xff\xff\xff\xff\xff\xff\xff", "\xff\xff\xff\xff\xff\xff\xff\xff\xf0",
	} {
		wantNone(t, n, 0, api.ErrLong)
		wantNone(t, withSum(n+"ahi"), 0, api.ErrLong)
		for k := range len(n) {
			wantNone(t, n[:k], 0, api.ErrShort)
		}
	}
}

// P6.1: Scan tells the frames one after the other, up to the end.
func TestScan(t *testing.T) {
	l := few()
	for n := range len(l) + 1 {
		wantScan(t, strings.Join(l[:n], ""), l[:n], api.OK)
		wantScan(t, strings.Join(l[n:], ""), l[n:], api.OK)
	}
	hi := written(0x68, "hi")
	wantScan(t, hi, []string{hi}, api.OK)
	most := written('m', mixed(api.MaxRecord))
	wantScan(t, hi+most+hi, []string{hi, most, hi}, api.OK)
	if items, at, e := Scan(nil); len(items) != 0 || at != 0 || e != api.OK {
		t.Errorf("Scan of nil: %v, %d, %d", items, at, e)
	}
}

// P6.1: Scan tells those ahead of the first error, where that would begin, and the error; nothing behind it.
func TestScanError(t *testing.T) {
	hi := written('h', "hi")
	form := "\x02hhi\x00\x00\x00\x00"
	faults := []struct {
		p    string
		want api.Errno
	}{
		{form, api.ErrForm}, {"\x80\x02", api.ErrForm}, {"\x00\x00\x00\x00\x00\x00", api.ErrForm},
		{number(api.MaxRecord + 1), api.ErrLong}, {"\xff\xff\xff\xff\xff\xff\xff\xff\xff", api.ErrLong}, {written('m', mixed(api.MaxRecord+1)), api.ErrLong},
		{"\x00", api.ErrShort}, {"\xff", api.ErrShort}, {hi[:1], api.ErrShort}, {hi[:len(hi)-1], api.ErrShort},
	}
	for _, x := range faults {
		for _, ahead := range [][]string{nil, {hi}, {hi, hi}, few()} {
			wantScan(t, strings.Join(ahead, "")+x.p, ahead, x.want)
			if x.want != api.ErrShort {
				wantScan(t, strings.Join(ahead, "")+x.p+hi+form, ahead, x.want)
				wantScan(t, strings.Join(ahead, "")+x.p+number(api.MaxRecord+1), ahead, x.want)
			}
		}
	}
}

// P6.1: one bit turned over anywhere ends the Scan at the frame that it stands in.
func TestScanOneBit(t *testing.T) {
	l := []string{written('a', "first"), written('b', ""), written('c', mixed(130)), written('d', "last")}
	whole := strings.Join(l, "")
	begin := 0
	for i, f := range l {
		for at := begin; at < begin+len(f); at++ {
			for bit := range 8 {
				p := []byte(whole)
				p[at] ^= 1 << bit
				items, end, e := Scan(p)
				if e == api.OK || e == api.ErrArg || len(items) != i || end != begin {
					t.Errorf("bit %d of byte %d, in frame %d: %d frames, up to %d, error %d", bit, at, i, len(items), end, e)
				}
			}
		}
		begin += len(f)
	}
}

// P6.2: of frames that are cut within one, Scan tells those ahead of it; cut between two, all that are there.
func TestCutAnywhere(t *testing.T) {
	l := few()
	whole := []byte(strings.Join(l, ""))
	ahead, begin := 0, 0
	for n := range len(whole) + 1 {
		if n == begin+len(l[min(ahead, len(l)-1)]) {
			begin = n
			ahead++
		}
		want := api.ErrShort
		if n == begin {
			want = api.OK
		}
		wantScan(t, string(whole[:n]), l[:ahead], want)
		// What stood behind the cut is still there in memory, and doesn't count.
		if items, at, e := Scan(whole[:n]); len(items) != ahead || at != begin || e != want {
			t.Errorf("cut at %d: %d frames, up to %d, error %d", n, len(items), at, e)
		}
	}
	if ahead != len(l) {
		t.Errorf("%d of %d frames", ahead, len(l))
	}
}

// P6.1: Scan is One, again and again, of any bytes.
func TestScanIsOneByOne(t *testing.T) {
	n := uint32(7)
	next := func(below uint32) int {
		n = n*1664525 + 1013904223
		return int(n >> 8 % below)
	}
	l := few()
	for range 3000 {
		var p []byte
		for range next(5) {
			p = append(p, l[next(uint32(len(l)))]...)
		}
		for range next(3) {
			p = append(p, byte(next(256)))
		}
		if len(p) > 0 && next(2) == 0 {
			p[next(uint32(len(p)))] ^= byte(1 << next(8))
		}
		items, end, e := Scan(p)
		at := 0
		for _, item := range items {
			one, oneE := One(p, at)
			if oneE != api.OK || one.Kind != item.Kind || !bytes.Equal(one.P, item.P) || one.At != item.At || one.End != item.End || one.At != at {
				t.Fatalf("of %x at %d: %v, %d, not %v", p, at, one, oneE, item)
			}
			at = one.End
		}
		if at != end || (e == api.OK) != (end == len(p)) {
			t.Fatalf("Scan of %x: up to %d (%d), error %d", p, end, at, e)
		}
		if _, oneE := One(p, end); e != api.OK && oneE != e {
			t.Fatalf("Scan of %x: error %d, and One %d", p, e, oneE)
		}
	}
}

// The rule of memory: nothing that is handed in is changed, and every answer is its own.
func TestMemory(t *testing.T) {
	room := []byte("some bytes, and more")
	p := room[:4]
	one, two := Pack('a', p), Pack('a', p)
	three, four := append(one, 'x'), append(two, 'y')
	clear(two)
	if string(room) != "some bytes, and more" || string(one) != written('a', "some") || three[len(one)] != 'x' || four[len(one)] != 'y' {
		t.Errorf("Pack: %x, %x, %x, of %q", one, three, four, room)
	}

	whole := strings.Join(few(), "")
	all := []byte(whole)
	items, _, _ := Scan(all)
	again, _, _ := Scan(all)
	for i := range items {
		_ = append(items[i].P, "XYZXYZXYZ"...)
	}
	wantItems(t, items, all)
	for i := range again {
		clear(again[i].P)
		again[i].At = 99
	}
	wantItems(t, items, all)
	first, _ := One(all, items[3].At)
	_ = append(first.P, "XYZXYZXYZ"...)
	clear(first.P)
	if string(all) != whole {
		t.Error("Scan and One share memory with what is handed in")
	}
	clear(all)
	wantItems(t, items, []byte(whole))
}

// wantItems asks that these are the frames of some bytes.
func wantItems(t *testing.T, items []Item, p []byte) {
	t.Helper()
	for i, item := range items {
		if string(p[item.At:item.End]) != written(item.Kind, string(item.P)) {
			t.Errorf("frame %d: %v", i, item)
		}
	}
}

// P1: every call ends and none panics, of any bytes and at any place; and what it tells is right.
func TestAnything(t *testing.T) {
	for first := range 256 {
		for _, behind := range []string{"", "\x00", "\xff", "\x00\x00\x00\x00\x00\x00", mixed(20), strings.Repeat("\xff", 20), strings.Repeat("\x00", 300)} {
			p := []byte(string([]byte{byte(first)}) + behind)
			for at := -2; at < len(p)+3; at++ {
				item, e := One(p, at)
				if e == api.OK && string(p[at:item.End]) != written(item.Kind, string(item.P)) {
					t.Errorf("One of %x at %d: %v", p, at, item)
				}
				if (e == api.ErrArg) != (at < 0 || at > len(p)) {
					t.Errorf("One of %x at %d: %d", p, at, e)
				}
			}
			items, _, _ := Scan(p)
			wantItems(t, items, p)
		}
	}
}

// P1: a Scan of many frames ends soon: none is looked at more than once.
func TestScanOfMany(t *testing.T) {
	const many = 1 << 18
	p := strings.Repeat(written('a', "")+written('b', "x"), many/2)
	items, at, e := Scan([]byte(p))
	if len(items) != many || at != len(p) || e != api.OK {
		t.Errorf("%d frames, up to %d of %d, error %d", len(items), at, len(p), e)
	}
}

// P2: what was asked ahead changes no answer.
func TestAnswersHangOnNothingElse(t *testing.T) {
	p := []byte(strings.Join(few(), ""))
	items, at, e := Scan(p)
	One([]byte("\xff"), 0)
	One(nil, -1)
	Scan([]byte("\x80\x00"))
	Pack(9, []byte(mixed(1000)))
	again, atAgain, eAgain := Scan(p)
	if at != atAgain || e != eAgain || len(items) != len(again) {
		t.Errorf("Scan twice: %d and %d frames, up to %d and %d, errors %d and %d", len(items), len(again), at, atAgain, e, eAgain)
	}
	wantItems(t, again, p)
	if string(Pack(1, p)) != string(Pack(1, p)) {
		t.Error("Pack twice")
	}
}
