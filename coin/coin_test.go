package coin

import (
	"bytes"
	"math"
	"slices"
	"strconv"
	"strings"
	"testing"

	"milestone/api"
)

// numbers are all about the powers of two, and some between.
func numbers() []uint64 {
	l := []uint64{0, 1, 2, 3, 5, 100, 300, 1000, 0x0102030405060708, 0x8182838485868788, math.MaxUint64, math.MaxUint64 - 1}
	for i := range 64 {
		one := uint64(1) << i
		l = append(l, one-1, one, one+1, one|one>>1, ^one)
	}
	n := uint64(1)
	for i := range 2000 {
		n = n*6364136223846793005 + 1442695040888963407
		l = append(l, n>>(i%64))
	}
	return l
}

// bitsOf are the last bits of a number as a text.
func bitsOf(n uint64, count int) string {
	s := strconv.FormatUint(n, 2)
	return strings.Repeat("0", max(0, count-len(s))) + s
}

// written is a number as so many bytes, bit by bit, in the form of the document: shorter ones may do, too.
func written(n uint64, size int) []byte {
	s := "11111111" + bitsOf(n, 64)
	if size < 9 {
		s = strings.Repeat("1", size-1) + "0" + bitsOf(n, 7*size)
	}
	var p []byte
	for ; s != ""; s = s[8:] {
		b, _ := strconv.ParseUint(s[:8], 2, 8)
		p = append(p, byte(b))
	}
	return p
}

// leastSize is the least size that has room for a number.
func leastSize(n uint64) int {
	for k := range 8 {
		if n < 1<<(7*(k+1)) {
			return k + 1
		}
	}
	return 9
}

// P3.1: Size is the least k for which 7 k bits have room for a number, of 64 bits 9.
func TestSize(t *testing.T) {
	for k := 1; k <= 8; k++ {
		last := uint64(1)<<(7*k) - 1
		if Size(last) != k || Size(last+1) != k+1 {
			t.Errorf("Size(%d) = %d, Size(%d) = %d", last, Size(last), last+1, Size(last+1))
		}
	}
	if Size(0) != 1 || Size(1) != 1 || Size(300) != 2 || Size(1<<63-1) != 9 || Size(1<<63) != 9 || Size(math.MaxUint64) != 9 {
		t.Error("Size: at the edges")
	}
	for _, n := range numbers() {
		if Size(n) != leastSize(n) {
			t.Errorf("Size(%d) = %d", n, Size(n))
		}
	}
}

// P3.1: Put tells how many bytes there are by ones, and the number behind these, the highest bits first.
func TestPut(t *testing.T) {
	texts := map[uint64]string{
		0: "\x00", 1: "\x01", 127: "\x7f", 128: "\x80\x80", 300: "\x81\x2c", 1<<14 - 1: "\xbf\xff", 1 << 14: "\xc0\x40\x00",
		0x010203: "\xc1\x02\x03", 1<<21 - 1: "\xdf\xff\xff", 1 << 21: "\xe0\x20\x00\x00", 1 << 49: "\xfe\x02\x00\x00\x00\x00\x00\x00",
		1<<56 - 1: "\xfe\xff\xff\xff\xff\xff\xff\xff", 1 << 56: "\xff\x01\x00\x00\x00\x00\x00\x00\x00",
		0x0102030405060708: "\xff\x01\x02\x03\x04\x05\x06\x07\x08", math.MaxUint64: "\xff\xff\xff\xff\xff\xff\xff\xff\xff",
	}
	for n, want := range texts {
		if got := Put(nil, n); string(got) != want {
			t.Errorf("Put(%d) = %x, not %x", n, got, want)
		}
	}
	for _, n := range numbers() {
		got, want := Put(nil, n), written(n, leastSize(n))
		if !bytes.Equal(got, want) || len(got) != Size(n) || !bytes.Equal(Put([]byte{}, n), want) {
			t.Errorf("Put(%d) = %x, not %x", n, got, want)
		}
	}
}

// P3.1: Put goes behind what is there, whatever that is.
func TestPutBehind(t *testing.T) {
	for _, p := range []string{"a", "\xff", "\x00\x00", "hello", strings.Repeat("x", 1000)} {
		for _, n := range []uint64{0, 300, math.MaxUint64} {
			if got := Put([]byte(p), n); string(got) != p+string(Put(nil, n)) {
				t.Errorf("Put(%x, %d) = %x", p, n, got)
			}
		}
	}
}

// P3.1, and the rule of memory: what is handed in to Put isn't changed, and what it answers is its own.
func TestPutMemory(t *testing.T) {
	room := []byte("abcdefghijklmnopqrst")
	p := room[:3]
	one, two := Put(p, 1), Put(p, math.MaxUint64)
	if string(room) != "abcdefghijklmnopqrst" || string(one) != "abc\x01" || string(two) != "abc\xff\xff\xff\xff\xff\xff\xff\xff\xff" {
		t.Errorf("Put twice: %x, %x, of %q", one, two, room)
	}
	three, four := append(one, 3), Put(one, 4)
	five := Put(one, 5)
	one[0], two[1] = 9, 9
	if string(room[:3]) != "abc" || string(three[3:]) != "\x01\x03" || string(four) != "abc\x01\x04" || string(five) != "abc\x01\x05" {
		t.Errorf("Put behind Put: %x, %x, %x, of %q", three, four, five, room)
	}
}

// wantGet asks that Get answers this, also if other bytes stand behind.
func wantGet(t *testing.T, p []byte, n uint64, size int, e api.Errno) {
	t.Helper()
	before := bytes.Clone(p)
	if gotN, gotSize, gotE := Get(p); gotN != n || gotSize != size || gotE != e {
		t.Errorf("Get(%x) = %d, %d, %d, not %d, %d, %d", p, gotN, gotSize, gotE, n, size, e)
	}
	if !bytes.Equal(before, p) {
		t.Errorf("Get wrote over %x: %x", before, p)
	}
}

// P3.1: Get leads back from Put; ErrShort of what is cut anywhere.
func TestGetBack(t *testing.T) {
	for _, n := range numbers() {
		p := Put(nil, n)
		wantGet(t, p, n, len(p), api.OK)
		for _, behind := range []string{"\x00", "\xff", "\x80\x7f", strings.Repeat("\xff", 20)} {
			wantGet(t, append(bytes.Clone(p), behind...), n, len(p), api.OK)
		}
		for k := range p {
			wantGet(t, p[:k:k], 0, 0, api.ErrShort)
			// The bytes behind the end aren't looked at, though there are some.
			wantGet(t, p[:k], 0, 0, api.ErrShort)
		}
	}
	wantGet(t, nil, 0, 0, api.ErrShort)
	wantGet(t, []byte{}, 0, 0, api.ErrShort)
}

// P3.1: ErrForm of a number that is longer than Put makes it; if that is cut, ErrShort goes first.
func TestGetForm(t *testing.T) {
	for _, n := range numbers() {
		for size := leastSize(n) + 1; size <= 9; size++ {
			p := written(n, size)
			wantGet(t, p, 0, 0, api.ErrForm)
			wantGet(t, append(p, 1, 2, 3), 0, 0, api.ErrForm)
			for k := range size {
				wantGet(t, p[:k], 0, 0, api.ErrShort)
			}
		}
	}
	for size := 2; size <= 9; size++ {
		least := uint64(1) << (7 * (size - 1))
		wantGet(t, written(least, size), least, size, api.OK)
		wantGet(t, written(least-1, size), 0, 0, api.ErrForm)
	}
}

// P3.1: of all texts of two bytes Get takes those alone that begin with what Put makes.
func TestGetAll(t *testing.T) {
	for first := range 256 {
		for second := range 256 {
			n := uint64(first&0x3f)<<8 | uint64(second)
			p := []byte{byte(first), byte(second)}
			switch {
			case first < 0x80:
				wantGet(t, p, uint64(first), 1, api.OK)
				wantGet(t, p[:1], uint64(first), 1, api.OK)
			case first >= 0xc0:
				wantGet(t, p, 0, 0, api.ErrShort)
			case n < 128:
				wantGet(t, p, 0, 0, api.ErrForm)
			default:
				wantGet(t, p, n, 2, api.OK)
			}
		}
	}
}

// P3.1: each first byte tells how many bytes there are.
func TestGetFirst(t *testing.T) {
	for first := range 256 {
		size := 1
		for size < 9 && first&(0x100>>size) != 0 {
			size++
		}
		p := append([]byte{byte(first)}, bytes.Repeat([]byte{0xff}, 9)...)
		if _, got, e := Get(p); got != size || e != api.OK {
			t.Errorf("Get of first byte %x: %d bytes, %d", first, got, e)
		}
		if _, _, e := Get(p[:size-1]); e != api.ErrShort {
			t.Errorf("Get of first byte %x, and too few: %d", first, e)
		}
		if _, _, e := Get(p[:size]); e == api.ErrShort {
			t.Errorf("Get of first byte %x, and as many as there are: ErrShort", first)
		}
	}
}

// P3.1: Fold is 2 n from 0 on, else -2 n - 1; Open is its inverse, and it Open's.
func TestFold(t *testing.T) {
	pairs := []struct {
		n      int64
		folded uint64
	}{
		{0, 0}, {-1, 1}, {1, 2}, {-2, 3}, {2, 4}, {-3, 5}, {150, 300}, {-150, 299},
		{math.MaxInt32, 1<<32 - 2}, {math.MinInt32, 1<<32 - 1},
		{1 << 62, 1 << 63}, {-1 << 62, 1<<63 - 1}, {-1<<62 - 1, 1<<63 + 1},
		{math.MaxInt64, math.MaxUint64 - 1}, {math.MinInt64, math.MaxUint64}, {math.MinInt64 + 1, math.MaxUint64 - 2},
	}
	for _, x := range pairs {
		if got := Fold(x.n); got != x.folded {
			t.Errorf("Fold(%d) = %d, not %d", x.n, got, x.folded)
		}
		if got := Open(x.folded); got != x.n {
			t.Errorf("Open(%d) = %d, not %d", x.folded, got, x.n)
		}
	}
	for _, n := range numbers() {
		if Fold(Open(n)) != n || Open(Fold(int64(n))) != int64(n) || (Open(n) < 0) != (n%2 == 1) {
			t.Errorf("Fold and Open: of %d", n)
		}
	}
}

// P1, P2: every call ends, and answers the same the second time, whatever was asked between.
func TestAnswersHangOnNothingElse(t *testing.T) {
	type all struct {
		size, got int
		put       string
		n, folded uint64
		e         api.Errno
		opened    int64
	}
	ask := func(n uint64) all {
		p := Put([]byte("\x80"), n)
		m, k, e := Get(p[1:])
		return all{Size(n), k, string(p), m, Fold(int64(n)), e, Open(n)}
	}
	l := numbers()
	var first []all
	for _, n := range l {
		first = append(first, ask(n))
	}
	slices.Reverse(l)
	slices.Reverse(first)
	for i, n := range l {
		Get(nil)
		Get([]byte("\x80\x00"))
		NewPurse([]byte("\xff")).Take(0)
		if ask(n) != first[i] {
			t.Errorf("of %d", n)
		}
	}
}
