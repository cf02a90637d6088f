package ether

import (
	"math"
	"strconv"
	"testing"

	"milestone/api"
)

// noNodes are numbers that are no node's.
var noNodes = []int{-1, 16, 17, 32, 255, 256, 1 << 32, math.MinInt, math.MaxInt}

// net is an Ether in which these hear each other.
func net(t *testing.T, pairs ...[2]int) *Ether {
	t.Helper()
	x := &Ether{}
	for _, p := range pairs {
		if e := x.Join(p[0], p[1], true); e != api.OK {
			t.Fatalf("Join %v: %d", p, e)
		}
	}
	return x
}

// two is an Ether of 0 and 1, with packets of these texts under way from 0.
func two(t *testing.T, texts ...string) *Ether {
	t.Helper()
	x := net(t, [2]int{0, 1})
	for _, s := range texts {
		wantSent(t, x, 0, s, 1)
	}
	return x
}

func wantSent(t *testing.T, x *Ether, from int, text string, sent int) {
	t.Helper()
	if n := x.Send(from, []byte(text)); n != sent {
		t.Fatalf("Send(%d, %q): %d, not %d", from, text, n, sent)
	}
}

// tell tells a packet: 0>1 a.
func tell(p Packet) string {
	return strconv.Itoa(p.From) + ">" + strconv.Itoa(p.To) + " " + string(p.P)
}

// wantUnder asks that these packets are under way, in order.
func wantUnder(t *testing.T, x *Ether, all ...string) {
	t.Helper()
	if x.Len() != len(all) {
		t.Fatalf("%d are under way, not %d", x.Len(), len(all))
	}
	for i, s := range all {
		if p, e := x.Peek(i); e != api.OK || tell(p) != s {
			t.Fatalf("%d: %q, %d; not %q", i, tell(p), e, s)
		}
	}
}

func isZero(p Packet) bool {
	return p.From == 0 && p.To == 0 && len(p.P) == 0
}

// wantNone asks what is told where none is under way.
func wantNone(t *testing.T, x *Ether) {
	t.Helper()
	for _, i := range []int{0, 1, -1, math.MinInt, math.MaxInt} {
		if p, e := x.Take(i); e != api.ErrNone || !isZero(p) {
			t.Errorf("Take(%d): %v, %d", i, p, e)
		}
		if p, e := x.Peek(i); e != api.ErrNone || !isZero(p) {
			t.Errorf("Peek(%d): %v, %d", i, p, e)
		}
		if l, d := x.Lose(i), x.Double(i); l != api.ErrNone || d != api.ErrNone {
			t.Errorf("Lose(%d), Double(%d): %d, %d", i, i, l, d)
		}
	}
	if x.Len() != 0 {
		t.Errorf("%d are under way", x.Len())
	}
}

// P19.1: the example of the document.
func TestExample(t *testing.T) {
	x := &Ether{}
	x.Join(0, 1, true)
	if n := x.Send(0, []byte("p")); n != 1 {
		t.Error(n)
	}
}

// P19.1: of the zero value nobody hears another one, and nothing is under way.
func TestZero(t *testing.T) {
	x := &Ether{}
	for a := range api.MaxNodes {
		for b := range api.MaxNodes {
			if x.Hears(a, b) {
				t.Errorf("%d hears %d", a, b)
			}
		}
		wantSent(t, x, a, "p", 0)
	}
	wantNone(t, x)
}

// P19.1: two that are joined hear each other, and no others do; nodes are 0 to 15.
func TestJoin(t *testing.T) {
	for a := range api.MaxNodes {
		for b := range api.MaxNodes {
			if a == b {
				continue
			}
			x := net(t, [2]int{a, b})
			wantPairs(t, x, [2]int{a, b})
			if e := x.Join(b, a, false); e != api.OK {
				t.Errorf("Join(%d, %d, false): %d", b, a, e)
			}
			wantPairs(t, x)
		}
	}
}

// wantPairs asks that these hear each other, and no others.
func wantPairs(t *testing.T, x *Ether, pairs ...[2]int) {
	t.Helper()
	all := map[[2]int]bool{}
	for _, p := range pairs {
		all[p] = true
		all[[2]int{p[1], p[0]}] = true
	}
	for a := range api.MaxNodes {
		for b := range api.MaxNodes {
			if x.Hears(a, b) != all[[2]int{a, b}] {
				t.Fatalf("%d hears %d: %v", a, b, x.Hears(a, b))
			}
		}
	}
}

// P19.1: two can be joined, or parted, again: nothing is other then. Others are left as they are.
func TestJoinAgain(t *testing.T) {
	x := net(t, [2]int{0, 1}, [2]int{1, 0}, [2]int{1, 2}, [2]int{15, 0})
	wantPairs(t, x, [2]int{0, 1}, [2]int{1, 2}, [2]int{0, 15})
	wantSent(t, x, 1, "p", 2)
	for range 2 {
		if e := x.Join(0, 1, false); e != api.OK {
			t.Error(e)
		}
		wantPairs(t, x, [2]int{1, 2}, [2]int{0, 15})
	}
	wantUnder(t, x, "1>0 p", "1>2 p")
}

// P19.1: ErrArg: they aren't two of 0 to 15; nothing has changed then.
func TestJoinOfOthers(t *testing.T) {
	for _, on := range []bool{true, false} {
		x := net(t, [2]int{0, 1}, [2]int{0, 15})
		for a := range api.MaxNodes {
			wantErrArg(t, x, a, a, on)
			for _, n := range noNodes {
				wantErrArg(t, x, a, n, on)
				wantErrArg(t, x, n, a, on)
				wantErrArg(t, x, n, n, on)
			}
		}
		wantPairs(t, x, [2]int{0, 1}, [2]int{0, 15})
	}
}

func wantErrArg(t *testing.T, x *Ether, a, b int, on bool) {
	t.Helper()
	if e := x.Join(a, b, on); e != api.ErrArg {
		t.Errorf("Join(%d, %d, %v): %d", a, b, on, e)
	}
	if x.Hears(a, b) && (a < 0 || a > 15 || b < 0 || b > 15 || a == b) {
		t.Errorf("%d hears %d", a, b)
	}
}

// P19.1: a packet goes to each that hears, rising, behind those under way.
func TestSend(t *testing.T) {
	x := net(t, [2]int{3, 15}, [2]int{7, 3}, [2]int{3, 0}, [2]int{3, 4}, [2]int{4, 5})
	x.Join(3, 4, false)
	wantSent(t, x, 3, "a", 3)
	wantSent(t, x, 0, "b", 1)
	wantSent(t, x, 3, "", 3)
	wantSent(t, x, 5, "c", 1)
	wantSent(t, x, 6, "d", 0)
	wantUnder(t, x, "3>0 a", "3>7 a", "3>15 a", "0>3 b", "3>0 ", "3>7 ", "3>15 ", "5>4 c")
}

// P19.1: all that can hear one do, itself not; what is no node isn't heard.
func TestSendToAll(t *testing.T) {
	x := &Ether{}
	for a := range api.MaxNodes {
		for b := range a {
			x.Join(a, b, true)
		}
	}
	for a := range api.MaxNodes {
		wantSent(t, x, a, "p", 15)
		for b := range api.MaxNodes {
			if b == a {
				continue
			}
			if p, e := x.Take(0); e != api.OK || p.From != a || p.To != b || string(p.P) != "p" {
				t.Errorf("%v, %d; not from %d to %d", p, e, a, b)
			}
		}
	}
	for _, n := range noNodes {
		wantSent(t, x, n, "p", 0)
	}
	wantNone(t, x)
}

// P19.1: at Most nothing is gone, above it the eldest are: as many as are too many.
func TestSendAboveMost(t *testing.T) {
	if Most != 1024 {
		t.Fatal(Most)
	}
	x := net(t, [2]int{0, 1}, [2]int{0, 2}, [2]int{0, 3}, [2]int{4, 5})
	for i := range 1022 {
		wantSent(t, x, 4, strconv.Itoa(i), 1)
	}
	wantSent(t, x, 5, "x", 1)
	wantSent(t, x, 5, "y", 1)
	wantEnds(t, x, 1024, "4>5 0", "5>4 y")
	wantSent(t, x, 6, "none", 0)
	wantEnds(t, x, 1024, "4>5 0", "5>4 y")
	wantSent(t, x, 4, "z", 1)
	wantEnds(t, x, 1024, "4>5 1", "4>5 z")
	wantSent(t, x, 0, "a", 3)
	wantEnds(t, x, 1024, "4>5 4", "0>3 a")
	x.Lose(5)
	wantSent(t, x, 0, "b", 3)
	wantEnds(t, x, 1024, "4>5 6", "0>3 b")
	wantFrom(t, x, 1015, "5>4 x", "5>4 y", "4>5 z", "0>1 a", "0>2 a", "0>3 a", "0>1 b", "0>2 b", "0>3 b")
}

// wantEnds asks how many are under way, and for the first and the last one.
func wantEnds(t *testing.T, x *Ether, n int, first, last string) {
	t.Helper()
	if x.Len() != n {
		t.Fatalf("%d are under way, not %d", x.Len(), n)
	}
	wantFrom(t, x, 0, first)
	wantFrom(t, x, n-1, last)
}

// wantFrom asks that these stand at a place and behind it.
func wantFrom(t *testing.T, x *Ether, at int, all ...string) {
	t.Helper()
	for i, s := range all {
		if p, e := x.Peek(at + i); e != api.OK || tell(p) != s {
			t.Fatalf("%d: %q, %d; not %q", at+i, tell(p), e, s)
		}
	}
}

// P19.1: one that is taken is no more under way, the others are, in their order.
func TestTake(t *testing.T) {
	x := two(t, "a", "b", "c", "d")
	for _, s := range []struct {
		i    int
		told string
		left []string
	}{
		{1, "0>1 b", []string{"0>1 a", "0>1 c", "0>1 d"}},
		{2, "0>1 d", []string{"0>1 a", "0>1 c"}},
		{0, "0>1 a", []string{"0>1 c"}},
		{0, "0>1 c", nil},
	} {
		if p, e := x.Take(s.i); e != api.OK || tell(p) != s.told {
			t.Errorf("Take(%d): %q, %d; not %q", s.i, tell(p), e, s.told)
		}
		wantUnder(t, x, s.left...)
	}
	wantNone(t, x)
}

// P19.1: one that is lost is no more under way.
func TestLose(t *testing.T) {
	x := two(t, "a", "b", "c", "d")
	for _, s := range []struct {
		i    int
		left []string
	}{
		{1, []string{"0>1 a", "0>1 c", "0>1 d"}},
		{2, []string{"0>1 a", "0>1 c"}},
		{0, []string{"0>1 c"}},
		{0, nil},
	} {
		if e := x.Lose(s.i); e != api.OK {
			t.Errorf("Lose(%d): %d", s.i, e)
		}
		wantUnder(t, x, s.left...)
	}
	wantNone(t, x)
}

// P19.1: one that is doubled is there once more, as the last.
func TestDouble(t *testing.T) {
	x := two(t, "a", "b", "c")
	for _, s := range []struct {
		i    int
		last string
	}{{1, "0>1 b"}, {0, "0>1 a"}, {2, "0>1 c"}, {5, "0>1 c"}} {
		if e := x.Double(s.i); e != api.OK {
			t.Errorf("Double(%d): %d", s.i, e)
		}
		wantFrom(t, x, x.Len()-1, s.last)
	}
	wantUnder(t, x, "0>1 a", "0>1 b", "0>1 c", "0>1 b", "0>1 a", "0>1 c", "0>1 c")
}

// P19.1: no more than Most are under way, though some are doubled: the eldest is gone, even if it is the one.
func TestDoubleAboveMost(t *testing.T) {
	x := two(t)
	for i := range Most - 1 {
		wantSent(t, x, 0, strconv.Itoa(i), 1)
	}
	x.Double(7)
	wantEnds(t, x, 1024, "0>1 0", "0>1 7")
	x.Double(9)
	wantEnds(t, x, 1024, "0>1 1", "0>1 9")
	x.Double(0)
	wantEnds(t, x, 1024, "0>1 2", "0>1 1")
}

// P19.1: one that is looked at stays.
func TestPeek(t *testing.T) {
	x := two(t, "a", "b")
	for range 3 {
		wantUnder(t, x, "0>1 a", "0>1 b")
	}
}

// P19.1: the i-th is modulo how many there are, i as a number of 64 bits without sign.
func TestAnyI(t *testing.T) {
	for n := 1; n <= 11; n++ {
		for _, i := range []int{0, 1, n - 1, n, n + 1, 2*n - 1, 1000, 1 << 32, math.MaxInt - 1, math.MaxInt, -1, -2, -n, -n - 1, -1000, math.MinInt + 1, math.MinInt} {
			at := int(uint64(i) % uint64(n))
			for kind := range 4 {
				wantPlace(t, n, i, at, kind)
			}
		}
	}
	// 2^64 - 1 is a multiple of 3 and of 5, and an odd one; 2^64 - 2 is one of 7.
	wantPlace(t, 5, -1, 0, 0)
	wantPlace(t, 7, -2, 0, 1)
	wantPlace(t, 3, -1, 0, 2)
	wantPlace(t, 10, -1, 5, 3)
}

// wantPlace asks that of n packets it is that one which a call means by i.
func wantPlace(t *testing.T, n, i, at, kind int) {
	t.Helper()
	x := two(t)
	var all []string
	for k := range n {
		text := strconv.Itoa(k)
		wantSent(t, x, 0, text, 1)
		all = append(all, "0>1 "+text)
	}
	without := append(append([]string{}, all[:at]...), all[at+1:]...)
	switch kind {
	case 0:
		if p, e := x.Take(i); e != api.OK || tell(p) != all[at] {
			t.Errorf("%d of %d: %q, %d", i, n, tell(p), e)
		}
		wantUnder(t, x, without...)
	case 1:
		if e := x.Lose(i); e != api.OK {
			t.Errorf("%d of %d: %d", i, n, e)
		}
		wantUnder(t, x, without...)
	case 2:
		if e := x.Double(i); e != api.OK {
			t.Errorf("%d of %d: %d", i, n, e)
		}
		wantUnder(t, x, append(all, all[at])...)
	case 3:
		if p, e := x.Peek(i); e != api.OK || tell(p) != all[at] {
			t.Errorf("%d of %d: %q, %d", i, n, tell(p), e)
		}
		wantUnder(t, x, all...)
	}
}

// P19.1: of a nil Ether ErrNone, 0, false, ahead of all else.
func TestNil(t *testing.T) {
	var x *Ether
	for _, n := range append([]int{0, 1, 15}, noNodes...) {
		for _, on := range []bool{true, false} {
			if e, f := x.Join(n, 1, on), x.Join(0, n, on); e != api.ErrNone || f != api.ErrNone {
				t.Errorf("Join of %d: %d, %d", n, e, f)
			}
		}
		if x.Hears(n, 1) || x.Hears(0, n) {
			t.Errorf("Hears of %d", n)
		}
		wantSent(t, x, n, "p", 0)
	}
	wantNone(t, x)
}

// The rule on memory: what was handed in may be written over, and a nil list is one without elements.
func TestHandedIn(t *testing.T) {
	x := net(t, [2]int{0, 1}, [2]int{0, 2})
	p := []byte("abcdef")
	x.Send(0, p[:3])
	copy(p, "xyzxyz")
	x.Send(1, p[3:])
	clear(p)
	if x.Send(2, nil) != 1 {
		t.Error("nil")
	}
	wantUnder(t, x, "0>1 abc", "0>2 abc", "1>0 xyz", "2>0 ")
}

// The rule on memory: what was handed in isn't changed, whatever is done to what is told.
func TestHandedInStays(t *testing.T) {
	x := two(t)
	p := []byte("abcdef")
	x.Send(0, p[:3])
	told, _ := x.Take(0)
	clear(append(told.P, "xyz"...))
	clear(told.P)
	if string(p) != "abcdef" {
		t.Errorf("%q", p)
	}
}

// The rule on memory: what was told may be written over and appended to; no other packet, and none that is told later, is changed by that.
func TestTold(t *testing.T) {
	x := net(t, [2]int{0, 1}, [2]int{0, 2})
	x.Send(0, []byte("abc"))
	x.Double(0)
	for i := range 3 {
		p, _ := x.Peek(i)
		clear(append(p.P, "def"...))
		clear(p.P)
		wantUnder(t, x, "0>1 abc", "0>2 abc", "0>1 abc")
	}
	var told []Packet
	for x.Len() > 0 {
		p, _ := x.Take(0)
		told = append(told, p)
	}
	for i, p := range told {
		if string(p.P) != "abc" {
			t.Errorf("%d: %q", i, p.P)
		}
		clear(append(p.P, "def"...))
		clear(p.P)
	}
}

// The bytes of packets that are no more under way aren't kept.
func TestNothingIsKept(t *testing.T) {
	x := two(t, "a", "b", "c", "d")
	x.Take(0)
	x.Lose(1)
	wantUnder(t, x, "0>1 b", "0>1 d")
	for i, p := range x.under[:cap(x.under)][len(x.under):] {
		if p.P != nil {
			t.Errorf("%d behind the last one: %q", i, p.P)
		}
	}
}

// P2: an Ether tells nothing of another one.
func TestTwoEthers(t *testing.T) {
	x := two(t, "a")
	y := &Ether{}
	wantPairs(t, y)
	wantNone(t, y)
	y.Join(2, 3, true)
	y.Send(2, []byte("b"))
	wantPairs(t, x, [2]int{0, 1})
	wantUnder(t, x, "0>1 a")
	wantUnder(t, y, "2>3 b")
}
