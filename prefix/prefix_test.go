package prefix

import (
	"strconv"
	"strings"
	"testing"

	"milestone/api"
)

// addrs are ordinary addresses and those at the edges.
var addrs = []uint32{0, 1, 2, 0x0a010203, 0x0a01ff00, 0x7fffffff, 0x80000000, 0x80000001, 0xaaaaaaaa, 0x55555555, 0xc0a80000, 0xff000080, 0xfffffffe, 0xffffffff}

// firstBits are an address's first n bits, one by one, and noughts behind them.
func firstBits(addr uint32, n int) uint32 {
	var first uint32
	for i := range min(n, 32) {
		first |= addr & (1 << (31 - i))
	}
	return first
}

// rightOnes are the prefixes of addrs of every length.
func rightOnes() []api.Prefix {
	var l []api.Prefix
	for _, a := range addrs {
		for n := range 33 {
			l = append(l, api.Prefix{Addr: firstBits(a, n), Len: uint8(n)})
		}
	}
	return l
}

// anyOnes are prefixes of which most may not be.
func anyOnes() []api.Prefix {
	var l []api.Prefix
	for _, a := range addrs {
		for _, n := range []uint8{0, 1, 8, 31, 32, 33, 64, 128, 255} {
			l = append(l, api.Prefix{Addr: a, Len: n})
		}
	}
	return l
}

// P1.1: Right asks for a length of 32 at most, and for noughts alone behind it.
func TestRight(t *testing.T) {
	for _, p := range rightOnes() {
		if !Right(p) {
			t.Errorf("Right(%x, %d): false", p.Addr, p.Len)
		}
	}
	for n := range 32 {
		for i := n; i < 32; i++ {
			p := api.Prefix{Addr: 1 << (31 - i), Len: uint8(n)}
			if Right(p) {
				t.Errorf("Right(%x, %d): true, bit %d is a one", p.Addr, p.Len, i)
			}
		}
	}
	for n := 33; n < 256; n++ {
		if Right(api.Prefix{Len: uint8(n)}) || Right(api.Prefix{Addr: 0xffffffff, Len: uint8(n)}) {
			t.Errorf("Right of length %d: true", n)
		}
	}
}

// P1.1: Of takes an address's first n bits, of more than 32 all 32.
func TestOf(t *testing.T) {
	for _, a := range addrs {
		for n := range 256 {
			want := api.Prefix{Addr: firstBits(a, n), Len: uint8(min(n, 32))}
			if got := Of(a, uint8(n)); got != want {
				t.Errorf("Of(%x, %d) = %v, not %v", a, n, got, want)
			}
		}
	}
}

// P1.1: Has asks for p's first Len bits, and for no bit behind them.
func TestHas(t *testing.T) {
	for _, p := range rightOnes() {
		if !Has(p, p.Addr) {
			t.Errorf("Has(%v, its own): false", p)
		}
		for i := range 32 {
			addr := p.Addr ^ 1<<(31-i)
			if got, want := Has(p, addr), i >= int(p.Len); got != want {
				t.Errorf("Has(%v, %x) = %v", p, addr, got)
			}
		}
		for _, a := range addrs {
			if got, want := Has(p, a), firstBits(a, int(p.Len)) == p.Addr; got != want {
				t.Errorf("Has(%v, %x) = %v", p, a, got)
			}
		}
	}
}

// P1.1: Within asks that p isn't shorter than q, and that q Has p's Addr.
func TestWithin(t *testing.T) {
	l := rightOnes()
	for _, p := range l {
		for _, q := range l {
			want := p.Len >= q.Len && firstBits(p.Addr, int(q.Len)) == q.Addr
			if got := Within(p, q); got != want {
				t.Errorf("Within(%v, %v) = %v", p, q, got)
			}
		}
	}
	all, ten, tenOne := api.Prefix{}, Of(0x0a000000, 8), Of(0x0a010000, 16)
	if !Within(tenOne, ten) || Within(ten, tenOne) || !Within(ten, ten) || !Within(ten, all) || Within(all, ten) {
		t.Error("Within: of 0/0, 10/8 and 10.1/16")
	}
	if Within(Of(0x0a000000, 8), Of(0x0a000000, 9)) || !Within(Of(0x0a000000, 9), Of(0x0a000000, 8)) {
		t.Error("Within: of the same Addr, by one bit")
	}
}

// P1.1: Compare goes by Addr, then by Len.
func TestCompare(t *testing.T) {
	rising := []api.Prefix{
		{}, {Len: 1}, {Len: 32}, {Addr: 1, Len: 32}, {Addr: 2, Len: 31}, {Addr: 2, Len: 32},
		{Addr: 0x0a000000, Len: 8}, {Addr: 0x0a000000, Len: 16}, {Addr: 0x0a010000, Len: 16},
		{Addr: 0x7fffffff, Len: 32}, {Addr: 0x80000000, Len: 1}, {Addr: 0x80000000, Len: 32},
		{Addr: 0xffffffff, Len: 32},
	}
	for i, a := range rising {
		for j, b := range rising {
			got := Compare(a, b)
			if got < 0 != (i < j) || got > 0 != (i > j) {
				t.Errorf("Compare(%v, %v) = %d", a, b, got)
			}
		}
	}
}

// P1.1: Common counts from the first bit on, and no further than each Len.
func TestCommon(t *testing.T) {
	count := func(a, b api.Prefix) int {
		n := 0
		for n < int(a.Len) && n < int(b.Len) && a.Addr>>(31-n)&1 == b.Addr>>(31-n)&1 {
			n++
		}
		return n
	}
	l := rightOnes()
	for _, a := range l {
		for _, b := range l {
			if got, want := Common(a, b), count(a, b); int(got) != want {
				t.Errorf("Common(%v, %v) = %d, not %d", a, b, got, want)
			}
		}
	}
	whole := Of(0x0a010203, 32)
	if Common(whole, whole) != 32 || Common(whole, api.Prefix{}) != 0 || Common(whole, Of(0x8a010203, 32)) != 0 || Common(whole, Of(0x0a010202, 32)) != 31 {
		t.Error("Common: at the edges")
	}
}

// P1.1: Bit counts from the highest one, 0, on; above 31 there is none.
func TestBit(t *testing.T) {
	for i := range 256 {
		var one uint32
		if i < 32 {
			one = 0x80000000 >> i
		}
		for _, a := range append(addrs, one, ^one) {
			if got, want := Bit(a, uint8(i)), a&one != 0; got != want {
				t.Errorf("Bit(%x, %d) = %v", a, i, got)
			}
		}
	}
}

// P1.2: Text tells the four bytes, the highest first, and Len.
func TestText(t *testing.T) {
	texts := []struct {
		p    api.Prefix
		text string
	}{
		{Of(0x0a010203, 16), "10.1.0.0/16"},
		{api.Prefix{}, "0.0.0.0/0"},
		{Of(0x01020304, 32), "1.2.3.4/32"},
		{Of(0xffffffff, 32), "255.255.255.255/32"},
		{Of(0xff000080, 25), "255.0.0.128/25"},
		{Of(0x64c80a09, 32), "100.200.10.9/32"},
		{Of(0x80000000, 1), "128.0.0.0/1"},
		{api.Prefix{Addr: 1, Len: 31}, "0.0.0.1/31"},
		{api.Prefix{Addr: 0x0a000000, Len: 255}, "10.0.0.0/255"},
	}
	for _, x := range texts {
		if got := Text(x.p); got != x.text {
			t.Errorf("Text(%v) = %q, not %q", x.p, got, x.text)
		}
	}
	for _, p := range append(rightOnes(), anyOnes()...) {
		var l []string
		for i := range 4 {
			l = append(l, strconv.Itoa(int(p.Addr>>(24-8*i)&255)))
		}
		if got, want := Text(p), strings.Join(l, ".")+"/"+strconv.Itoa(int(p.Len)); got != want {
			t.Errorf("Text(%v) = %q, not %q", p, got, want)
		}
	}
}

// P1.2: Parse leads back from Text, for each prefix that is Right.
func TestParseBack(t *testing.T) {
	for _, p := range rightOnes() {
		if got, e := Parse(Text(p)); got != p || e != api.OK {
			t.Errorf("Parse(%q) = %v, %d", Text(p), got, e)
		}
	}
	for b := range 256 {
		s := strconv.Itoa(b)
		want := api.Prefix{Addr: uint32(b) * 0x01010101, Len: 32}
		if got, e := Parse(s + "." + s + "." + s + "." + s + "/32"); got != want || e != api.OK {
			t.Errorf("Parse of bytes %d: %v, %d", b, got, e)
		}
	}
}

func wantForm(t *testing.T, s string) {
	t.Helper()
	if p, e := Parse(s); p != (api.Prefix{}) || e != api.ErrForm {
		t.Errorf("Parse(%q) = %v, %d", s, p, e)
	}
}

// P1.2: ErrForm, and no prefix beside it, for what Text makes of none that is Right.
func TestParseWrong(t *testing.T) {
	wrong := []string{
		// Too few or too many numbers, or none.
		"", "/", "...", ".../", "..../", "10", "10.0.0.0", "10.0.0.0/", "/8", "10.0.0/8", "10.0.0./8", ".0.0.0/8", "10..0.0/8", "1.2.3.4.5/8", "1.2.3.4/5/6", "10.0.0.0//8", "10.0.0.0/8.", "10.0.0.0/8/",
		// Marks that stand elsewhere, or are others.
		"10/0.0.0.8", "10.0.0.0.8", "10.0.0/0.8", "10,0,0,0/8", "10.0.0.0\\8", "10:0:0:0/8", "10.0.0.0/8\n", "10.0.0.0/8 ", " 10.0.0.0/8", "10. 0.0.0/8", "10.0.0.0/8\x00",
		// Noughts ahead, signs, other bases.
		"010.0.0.0/8", "00.0.0.0/0", "10.0.0.00/8", "10.0.0.0/08", "10.0.0.0/00", "+10.0.0.0/8", "-0.0.0.0/0", "10.0.0.0/+8", "0x0a.0.0.0/8", "a.0.0.0/8", "1e1.0.0.0/8", "1_0.0.0.0/8",
		// Too great, with those that come to what may be when they go round.
		"256.0.0.0/8", "10.256.0.0/16", "10.0.256.0/24", "10.0.0.256/32", "266.0.0.0/8", "10.0.0.0/264", "4294967306.0.0.0/8", "10.0.0.0/4294967304", "18446744073709551626.0.0.0/8", "999.999.999.999/99",
		// Prefixes that are not Right.
		"10.0.0.0/33", "0.0.0.0/33", "0.0.0.0/255", "10.0.0.1/8", "10.0.0.0/6", "0.0.0.1/31", "1.2.3.4/0", "128.0.0.0/0",
		// Runes that are no digits of ours, and bytes that are no rune.
		"１０.0.0.0/8", "١٠.0.0.0/8", "10。0.0.0/8", "10.0.0.0／8", "\xff", "10.0.0.0/8\xff", "1\xc30.0.0.0/8", "é",
	}
	for _, s := range wrong {
		wantForm(t, s)
	}
	for _, p := range anyOnes() {
		if !Right(p) {
			wantForm(t, Text(p))
		}
	}
	wantForm(t, strings.Repeat("0", 100000)+".0.0.0/0")
	wantForm(t, strings.Repeat(".", 100000))
	wantForm(t, strings.Repeat("10.0.0.0/8", 10000))
}

// number is what a decimal number without noughts ahead comes to, if it is greatest at most.
func number(s string, greatest int) (int, bool) {
	n, err := strconv.Atoi(s)
	return n, err == nil && strconv.Itoa(n) == s && 0 <= n && n <= greatest
}

// parsed is the prefix of a text, piece by piece, if there is one.
func parsed(s string) (api.Prefix, bool) {
	bytes, length, ok := strings.Cut(s, "/")
	l := strings.Split(bytes, ".")
	if !ok || len(l) != 4 {
		return api.Prefix{}, false
	}
	n, ok := number(length, 32)
	p := api.Prefix{Len: uint8(n)}
	for i, x := range l {
		b, right := number(x, 255)
		ok = ok && right
		p.Addr |= uint32(b) << (24 - 8*i)
	}
	return p, ok && firstBits(p.Addr, n) == p.Addr
}

// P1.2: of all texts that are off a right one by one byte, Parse takes those alone that Text makes.
func TestParseNear(t *testing.T) {
	check := func(s string) {
		want, ok := parsed(s)
		if !ok {
			wantForm(t, s)
		} else if p, e := Parse(s); p != want || e != api.OK {
			t.Errorf("Parse(%q) = %v, %d, not %v", s, p, e, want)
		}
	}
	for _, s := range []string{"10.16.0.0/12", "0.0.0.0/0", "1.0.0.0/32", "255.240.0.0/12"} {
		for i := range len(s) {
			check(s[:i] + s[i+1:])
			for b := range 256 {
				check(s[:i] + string([]byte{byte(b)}) + s[i+1:])
				check(s[:i] + string([]byte{byte(b)}) + s[i:])
			}
		}
		for b := range 256 {
			check(s + string([]byte{byte(b)}))
		}
	}
}

// P1: no call panics, of prefixes that are not Right either.
func TestEveryCallEnds(t *testing.T) {
	l := anyOnes()
	for _, p := range l {
		Right(p)
		Text(p)
		Parse(Text(p))
		for _, a := range addrs {
			Of(a, p.Len)
			Has(p, a)
			Bit(a, p.Len)
		}
		for _, q := range l {
			Within(p, q)
			Compare(p, q)
			Common(p, q)
		}
	}
}

// P2: what Parse and Text answer doesn't hang on what was asked ahead.
func TestAnswersHangOnNothingElse(t *testing.T) {
	p := Of(0x0a010203, 16)
	for _, s := range []string{"10.1.0.0/16", "", "256.0.0.0/8", "9.9.9.9/32"} {
		Parse(s)
		if Text(p) != "10.1.0.0/16" {
			t.Errorf("Text, behind Parse(%q)", s)
		}
		if q, e := Parse("10.1.0.0/16"); q != p || e != api.OK {
			t.Errorf("Parse, behind Parse(%q): %v, %d", s, q, e)
		}
	}
}
