package coin

import (
	"bytes"
	"math"
	"strings"
	"testing"

	"milestone/api"
)

// wantPurse asks what is told of a Purse: its fault, how many bytes are left, and how it ends.
func wantPurse(t *testing.T, what string, x *Purse, fault api.Errno, left int, end api.Errno) {
	t.Helper()
	if x.Fault() != fault || x.Left() != left || x.End() != end {
		t.Errorf("%q: Fault %d, Left %d, End %d, not %d, %d, %d", what, x.Fault(), x.Left(), x.End(), fault, left, end)
	}
}

// wantTake asks that Take answers this.
func wantTake(t *testing.T, x *Purse, most, n uint64) {
	t.Helper()
	if got := x.Take(most); got != n {
		t.Errorf("Take(%d) = %d, not %d", most, got, n)
	}
}

// wantBytes asks that Bytes answers this.
func wantBytes(t *testing.T, x *Purse, n int, want string) {
	t.Helper()
	if got := x.Bytes(n); string(got) != want {
		t.Errorf("Bytes(%d) = %q, not %q", n, got, want)
	}
}

// wantNothingMore asks that behind a fault nothing is taken, and that the fault and what is left stay.
func wantNothingMore(t *testing.T, x *Purse) {
	t.Helper()
	fault, left := x.Fault(), x.Left()
	for _, most := range []uint64{0, 1, 127, 1 << 20, math.MaxUint64} {
		wantTake(t, x, most, 0)
	}
	for _, n := range []int{1, 0, -1, 2, left, left + 1, math.MaxInt, math.MinInt} {
		wantBytes(t, x, n, "")
	}
	wantPurse(t, "behind a fault", x, fault, left, fault)
}

// P3.2: numbers and bytes are taken one behind the other, up to the end.
func TestPurse(t *testing.T) {
	x := NewPurse([]byte("\x05\x03abc\x81\x2c\xff\xff\xff\xff\xff\xff\xff\xff\xff\x00"))
	wantPurse(t, "whole", x, api.OK, 17, api.ErrForm)
	wantTake(t, x, 9, 5)
	wantPurse(t, "behind a number", x, api.OK, 16, api.ErrForm)
	wantTake(t, x, 9, 3)
	wantBytes(t, x, 3, "abc")
	wantPurse(t, "behind bytes", x, api.OK, 12, api.ErrForm)
	wantTake(t, x, 1000, 300)
	wantTake(t, x, math.MaxUint64, math.MaxUint64)
	wantPurse(t, "ahead of the last", x, api.OK, 1, api.ErrForm)
	wantTake(t, x, 0, 0)
	wantPurse(t, "at the end", x, api.OK, 0, api.OK)
}

// P3.2: Take is Get's number, for each number, and takes its bytes alone.
func TestTake(t *testing.T) {
	var p []byte
	l := numbers()
	for _, n := range l {
		p = Put(p, n)
	}
	x, left := NewPurse(p), len(p)
	for _, n := range l {
		wantTake(t, x, n, n)
		left -= Size(n)
		if x.Left() != left {
			t.Fatalf("Left behind %d: %d, not %d", n, x.Left(), left)
		}
	}
	wantPurse(t, "at the end", x, api.OK, 0, api.OK)
}

// P3.2: Get's faults are Take's: what it looked at is left.
func TestTakeFaults(t *testing.T) {
	faults := []struct {
		p     string
		fault api.Errno
	}{
		{"", api.ErrShort},
		{"\x80", api.ErrShort},
		{"\xc0\x40", api.ErrShort},
		{"\xc0\x00", api.ErrShort},
		{"\xfe\x02\x00\x00\x00\x00\x00", api.ErrShort},
		{"\xff\xff\xff\xff\xff\xff\xff\xff", api.ErrShort},
		{"\x80\x00", api.ErrForm},
		{"\x80\x7f", api.ErrForm},
		{"\x80\x7f\x05", api.ErrForm},
		{"\xff\x00\xff\xff\xff\xff\xff\xff\xff", api.ErrForm},
	}
	for _, f := range faults {
		for _, most := range []uint64{0, 1, 1000, math.MaxUint64} {
			for _, ahead := range []string{"", "\x07"} {
				x := NewPurse([]byte(ahead + f.p))
				x.Bytes(len(ahead))
				wantTake(t, x, most, 0)
				wantPurse(t, f.p, x, f.fault, len(f.p), f.fault)
				wantNothingMore(t, x)
			}
		}
	}
	for _, x := range []*Purse{NewPurse(nil), NewPurse([]byte{})} {
		wantPurse(t, "of nothing", x, api.OK, 0, api.OK)
		wantTake(t, x, 9, 0)
		wantPurse(t, "of nothing, taken", x, api.ErrShort, 0, api.ErrShort)
		wantNothingMore(t, x)
	}
}

// P3.2: ErrLong of a number above most, which is there still; at most it is taken.
func TestTakeLong(t *testing.T) {
	for _, n := range numbers() {
		p := append(Put(nil, n), "\x01\x02"...)
		x := NewPurse(p)
		wantTake(t, x, math.MaxUint64, n)
		wantPurse(t, "taken", x, api.OK, 2, api.ErrForm)
		if n == 0 {
			continue
		}
		for _, most := range []uint64{0, n / 2, n - 1} {
			x = NewPurse(p)
			wantTake(t, x, most, 0)
			wantPurse(t, "too long", x, api.ErrLong, len(p), api.ErrLong)
			wantNothingMore(t, x)
		}
	}
}

// P3.2: Bytes are the next n; ErrShort if there are fewer: then they are left. Below 0: none, and no fault.
func TestBytes(t *testing.T) {
	const text = "abcdef"
	for n := range len(text) + 1 {
		x := NewPurse([]byte(text))
		wantBytes(t, x, n, text[:n])
		wantPurse(t, "some taken", x, api.OK, len(text)-n, NewPurse([]byte(text[n:])).End())
		wantBytes(t, x, len(text)-n, text[n:])
		wantPurse(t, "all taken", x, api.OK, 0, api.OK)
		wantBytes(t, x, 0, "")
		wantPurse(t, "none of none", x, api.OK, 0, api.OK)
	}
	for _, n := range []int{len(text), len(text) + 1, 1 << 40, math.MaxInt} {
		x := NewPurse([]byte(text))
		wantBytes(t, x, 1, "a")
		wantBytes(t, x, n, "")
		wantPurse(t, "too few", x, api.ErrShort, len(text)-1, api.ErrShort)
		wantNothingMore(t, x)
	}
	for _, n := range []int{-1, -2, math.MinInt32, math.MinInt} {
		x := NewPurse([]byte(text))
		wantBytes(t, x, n, "")
		wantPurse(t, "below 0", x, api.OK, len(text), api.ErrForm)
		wantBytes(t, x, len(text), text)
		wantBytes(t, x, n, "")
		wantPurse(t, "below 0, at the end", x, api.OK, 0, api.OK)
	}
}

// P3.2: the first fault stays, whatever would be wrong behind it.
func TestFirstFault(t *testing.T) {
	x := NewPurse([]byte("\x09\x80\x00"))
	wantTake(t, x, 8, 0)
	wantTake(t, x, 9, 0)
	wantBytes(t, x, 100, "")
	wantPurse(t, "ErrLong first", x, api.ErrLong, 3, api.ErrLong)
	x = NewPurse([]byte("\x09\x80\x00"))
	wantBytes(t, x, 4, "")
	wantTake(t, x, 8, 0)
	wantPurse(t, "ErrShort first", x, api.ErrShort, 3, api.ErrShort)
	x = NewPurse([]byte("\x09\x80\x00"))
	wantTake(t, x, 9, 9)
	wantTake(t, x, 9, 0)
	wantBytes(t, x, 3, "")
	wantPurse(t, "ErrForm first", x, api.ErrForm, 2, api.ErrForm)
}

// P3.2: that something is left at the End is no fault: it can still be taken.
func TestEndIsNoFault(t *testing.T) {
	x := NewPurse([]byte("\x05\x06"))
	for range 3 {
		wantPurse(t, "ahead of all", x, api.OK, 2, api.ErrForm)
	}
	wantTake(t, x, 9, 5)
	wantPurse(t, "behind one", x, api.OK, 1, api.ErrForm)
	wantTake(t, x, 9, 6)
	wantPurse(t, "behind both", x, api.OK, 0, api.OK)
}

// P3.2: of a nil Purse: 0, none, ErrNone.
func TestNilPurse(t *testing.T) {
	var x *Purse
	wantPurse(t, "nil", x, api.ErrNone, 0, api.ErrNone)
	for _, n := range []int{0, 1, -1, math.MaxInt, math.MinInt} {
		wantTake(t, x, uint64(n), 0)
		if got := x.Bytes(n); len(got) != 0 {
			t.Errorf("nil: Bytes(%d) = %x", n, got)
		}
	}
	wantPurse(t, "nil, asked", x, api.ErrNone, 0, api.ErrNone)
}

// The rule of memory: a Purse changes nothing of what it is of, and what it answers is a list of its own.
func TestPurseMemory(t *testing.T) {
	const text = "abcdefghi\x05"
	p := []byte(text + "behind")[:len(text)]
	x := NewPurse(p)
	one := x.Bytes(3)
	two := x.Bytes(3)
	_ = append(one, "XYZXYZ"...)
	copy(one, "123")
	wantBytes(t, x, 3, "ghi")
	wantTake(t, x, 9, 5)
	if string(one) != "123" || string(two) != "def" || string(p[:cap(p)]) != text+"behind" {
		t.Errorf("written over: %q, %q, %q", one, two, p[:cap(p)])
	}
	x = NewPurse(p)
	clear(p)
	wantBytes(t, x, len(text), text)
}

// P2: Purses of the same bytes know nothing of one another.
func TestPursesApart(t *testing.T) {
	p := []byte("\x05\x80\x00")
	x, y := NewPurse(p), NewPurse(p)
	wantTake(t, x, 4, 0)
	wantTake(t, y, 5, 5)
	wantPurse(t, "the one", x, api.ErrLong, 3, api.ErrLong)
	wantPurse(t, "the other", y, api.OK, 2, api.ErrForm)
	wantTake(t, y, 5, 0)
	wantPurse(t, "the one, still", x, api.ErrLong, 3, api.ErrLong)
	wantPurse(t, "the other, faulty", y, api.ErrForm, 2, api.ErrForm)
}

// P1: Purses of much, and of anything, end.
func TestPurseEnds(t *testing.T) {
	x := NewPurse(bytes.Repeat([]byte{0x81, 0x2c}, 1<<18))
	for range 1 << 18 {
		wantTake(t, x, 300, 300)
	}
	wantPurse(t, "much", x, api.OK, 0, api.OK)
	for first := range 256 {
		for n := range 12 {
			x := NewPurse([]byte(string([]byte{byte(first)}) + strings.Repeat("\xff", n)))
			for x.Left() > 0 && x.Fault() == api.OK {
				x.Take(math.MaxUint64)
			}
		}
	}
}
