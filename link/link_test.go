package link

import (
	"math"
	"testing"

	"milestone/api"
)

// mostTime is the last time of which something is promised.
const mostTime = 1 << 63

// starts are times at which links are begun.
var starts = []uint64{0, 1, 5, 6, 7, 20, 1000, 1 << 32, mostTime - 300}

// firsts are numbers of first hellos.
var firsts = []uint64{0, 1, 2, 3, 15, 16, 17, 1000, 1<<32 - 1, 1 << 63, math.MaxUint64 - 100}

// want asks what a link tells.
func want(t *testing.T, what string, l *Link, receives, cost uint16, alive bool) {
	t.Helper()
	if l.Receives() != receives || l.Cost() != cost || l.Alive() != alive {
		t.Errorf("%s: %d, %d, %v; not %d, %d, %v", what, l.Receives(), l.Cost(), l.Alive(), receives, cost, alive)
	}
}

// wantGood asks that enough of a link's last hellos came; its neighbor tells nothing.
func wantGood(t *testing.T, what string, l *Link) {
	t.Helper()
	want(t, what, l, 96, 65535, true)
}

// wantPoor asks that some came, but not enough.
func wantPoor(t *testing.T, what string, l *Link) {
	t.Helper()
	want(t, what, l, 65535, 65535, true)
}

// wantDead asks that none came.
func wantDead(t *testing.T, what string, l *Link) {
	t.Helper()
	want(t, what, l, 65535, 65535, false)
}

// with is a link to which hellos of these numbers came, all at one time.
func with(now uint64, numbers ...uint64) *Link {
	l := New(now)
	for _, n := range numbers {
		l.Hello(n, now)
	}
	return l
}

// P14.1: the numbers of the document.
func TestNumbers(t *testing.T) {
	if Good != 96 || Gap != 6 || Hold != 20 || Window != 3 || Need != 2 {
		t.Error(Good, Gap, Hold, Window, Need)
	}
}

// P14.1, P14.2: the document's example.
func TestExample(t *testing.T) {
	l := New(0)
	l.Hello(0, 1)
	l.Hello(1, 3)
	wantGood(t, "two hellos", l)
	l.Heard(96, 3)
	want(t, "it hears us", l, 96, 96, true)
}

// P14.1: of a New link no hello came, and the neighbor tells nothing.
func TestNew(t *testing.T) {
	for _, now := range starts {
		l := New(now)
		wantDead(t, "New", l)
		for _, later := range []uint64{0, 1, 5, 6, 7, 19, 20, 96, 200} {
			l.Tick(now + later)
			wantDead(t, "a Tick of a New one", l)
		}
		wantGood(t, "nothing is told", with(now, 0, 1))
	}
}

// P14.1: the first hello comes alone, of whatever number; how long it was waited for counts for nothing.
func TestFirstHello(t *testing.T) {
	for _, first := range firsts {
		l := New(7)
		l.Tick(1000)
		l.Hello(first, 1001)
		wantPoor(t, "the first one", l)
		l.Tick(1006)
		wantPoor(t, "the second one isn't missed yet", l)
		l.Hello(first+1, 1006)
		wantGood(t, "the second one", l)
	}
}

// P14.1, P14.2: those between two hellos are missed; of the last three, two must have come.
func TestBetween(t *testing.T) {
	for _, x := range []struct {
		numbers []uint64
		good    bool
	}{
		{[]uint64{0}, false},
		{[]uint64{0, 1}, true},
		{[]uint64{0, 2}, true},
		{[]uint64{0, 3}, false},
		{[]uint64{0, 1, 2}, true},
		{[]uint64{0, 1, 3}, true},
		{[]uint64{0, 1, 4}, false},
		{[]uint64{0, 1, 2, 3, 4, 5, 8}, false},
		{[]uint64{0, 3, 4}, true},
		{[]uint64{0, 3, 5}, true},
		{[]uint64{0, 3, 6}, false},
		{[]uint64{0, 3, 6, 9, 12, 15}, false},
		{[]uint64{0, 2, 4, 6, 8}, true},
		{[]uint64{0, 1, 14, 15}, true},
		{[]uint64{0, 1, 14, 16}, true},
		{[]uint64{0, 1, 16}, false},
		{[]uint64{0, 1, 17}, false},
		{[]uint64{0, 1, 18}, false},
		{[]uint64{0, 1, 19}, false},
		{[]uint64{0, 1, 33}, false},
		{[]uint64{0, 1, 34}, false},
		{[]uint64{0, 1, 65}, false},
		{[]uint64{0, 1, 66}, false},
		{[]uint64{0, 1, 66, 67}, true},
	} {
		for _, first := range firsts {
			l := New(3)
			for _, n := range x.numbers {
				l.Hello(first+n, 3)
			}
			receives := uint16(api.Endless)
			if x.good {
				receives = Good
			}
			want(t, "some hellos", l, receives, 65535, true)
		}
	}
}

// P14.1: a hello that is far ahead comes alone, however far that is, and others follow it.
func TestFarAhead(t *testing.T) {
	for _, ahead := range []uint64{15, 16, 17, 31, 32, 33, 62, 63, 64, 65, 255, 256, 65535, 65536, 1 << 32, 1 << 63, math.MaxUint64 - 10} {
		l := with(0, 0, 1, 2)
		l.Hello(3+ahead, 0)
		wantPoor(t, "far ahead", l)
		l.Hello(4+ahead, 0)
		wantGood(t, "and the next one", l)
	}
}

// P14.1: a hello below the number behind the newest one comes alone: the same again, or an elder one.
func TestElder(t *testing.T) {
	for _, first := range firsts {
		newest := first + 40
		for _, n := range []uint64{newest, newest - 1, newest - 2, newest - 3, newest - 15, newest - 16, newest - 17, newest - 40, 0} {
			l := with(0, newest-2, newest-1, newest)
			wantGood(t, "three", l)
			l.Hello(n, 0)
			wantPoor(t, "an elder one", l)
			l.Hello(n+1, 0)
			wantGood(t, "the one behind it", l)
			l.Hello(n+3, 0)
			wantGood(t, "one is missed", l)
			l.Hello(n+3, 0)
			wantPoor(t, "the same again", l)
		}
	}
}

// P14.1: behind the greatest number every hello is below the one behind it, 0 among them.
func TestGreatestNumber(t *testing.T) {
	const greatest = math.MaxUint64
	wantGood(t, "up to it", with(0, greatest-1, greatest))
	wantPoor(t, "far up to it", with(0, greatest-3, greatest))
	for _, n := range []uint64{0, 1, 2, 14, 15, 16, greatest / 2, greatest - 1, greatest} {
		wantPoor(t, "behind the greatest", with(0, greatest-1, greatest, n))
		l := with(0, greatest-2, greatest-1)
		l.Tick(6) // that misses the greatest one
		wantGood(t, "one was missed", l)
		l.Hello(n, 6)
		wantPoor(t, "behind the greatest, that was missed", l)
	}
	l := with(0, greatest)
	l.Hello(0, 0)
	l.Hello(1, 0)
	wantGood(t, "begun anew", l)
}

// P14.1: a hello is missed Gap behind the last one that came, not ahead of that; each further one Gap later.
func TestMissed(t *testing.T) {
	for _, now := range starts {
		l := with(now, 0, 1, 2)
		for later := range uint64(12) {
			l.Tick(now + later)
			wantGood(t, "none or one is missed", l)
		}
		for later := uint64(12); later < 96; later++ {
			l.Tick(now + later)
			wantPoor(t, "two or more are missed", l)
		}
		l.Tick(now + 96)
		wantDead(t, "all are missed", l)
		l.Tick(now + 300)
		wantDead(t, "all are missed still", l)
	}
}

// P14.1: one Tick misses all that are to be missed by then.
func TestOneTick(t *testing.T) {
	for _, now := range starts {
		for later := range uint64(120) {
			l := with(now, 0, 1, 2)
			l.Tick(now + later)
			receives := uint16(Good)
			if later >= 12 {
				receives = api.Endless
			}
			want(t, "one Tick", l, receives, 65535, later < 96)
		}
	}
}

// P14.1: behind a late Tick the next one is missed at its own time, not Gap behind that Tick.
func TestLateTick(t *testing.T) {
	l := with(100, 0, 1, 2)
	l.Tick(111)
	wantGood(t, "one is missed", l)
	l.Tick(112)
	wantPoor(t, "the second one", l)
	l.Tick(195)
	wantPoor(t, "fifteen are missed", l)
	l.Tick(196)
	wantDead(t, "all are missed", l)
}

// P14.1: a hello that comes, elder or not, puts off when the next one is missed: to now and Gap.
func TestPutOff(t *testing.T) {
	for _, n := range []uint64{3, 4, 0, 2, 50} {
		l := with(0, 0, 1, 2)
		l.Hello(n, 5)
		l.Hello(n+1, 5)
		l.Tick(16)
		wantGood(t, "one is missed", l)
		l.Tick(17)
		wantPoor(t, "two are missed", l)
	}
	l := with(50, 0, 1)
	l.Hello(2, 40)
	l.Tick(51)
	wantGood(t, "one is missed", l)
	l.Tick(52)
	wantPoor(t, "time went back at a hello", l)
}

// P14.1: a Tick at an earlier time changes nothing.
func TestEarlierTick(t *testing.T) {
	l := with(100, 0, 1)
	l.Heard(7, 100)
	for _, now := range []uint64{0, 50, 100, 105} {
		l.Tick(now)
		want(t, "earlier", l, 96, 7, true)
	}
}

// P14.1: of each hello that is missed the number is one more.
func TestNumberBehindMissed(t *testing.T) {
	for _, first := range firsts {
		for _, missed := range []uint64{1, 2, 3, 8, 14} {
			for i := range missed + 1 {
				l := with(0, first, first+1)
				l.Tick(6 * missed)
				l.Hello(first+1+i, 0)
				wantPoor(t, "one that was missed comes late, alone", l)
			}
			l := with(0, first, first+1)
			l.Tick(6 * missed)
			l.Hello(first+2+missed, 0)
			receives := uint16(api.Endless)
			if missed == 1 {
				receives = Good
			}
			want(t, "the one behind", l, receives, 65535, true)
			l.Hello(first+2+missed+2, 0)
			wantGood(t, "and one more, but one", l)
		}
	}
	l := with(0, 0, 1, 2)
	l.Tick(6)
	l.Hello(3, 7)
	l.Hello(4, 8)
	wantGood(t, "one that was late, and its next one", l)
	l = with(0, 0, 1, 2)
	l.Tick(6)
	l.Hello(5, 7)
	wantPoor(t, "one was missed by a Tick, one by a hello", l)
}

// P14.1: if all were missed a hello comes alone, whatever its number.
func TestAfterDeath(t *testing.T) {
	for _, n := range []uint64{0, 1, 2, 3, 17, 18, 19, 20, 33, 34, 35, 36, 1000, math.MaxUint64 - 3} {
		l := with(0, 0, 1, 2)
		l.Tick(96)
		wantDead(t, "all are missed", l)
		l.Hello(n, 200)
		wantPoor(t, "alone", l)
		l.Tick(205)
		wantPoor(t, "none is missed yet", l)
		l.Hello(n+2, 205)
		wantGood(t, "two of three", l)
		l.Tick(205 + 95)
		wantPoor(t, "fifteen are missed", l)
		l.Tick(205 + 96)
		wantDead(t, "all are missed again", l)
	}
}

// P14.1, P14.2: while any of the last 16 hellos came a link is Alive: of those that came alone, too.
func TestAlive(t *testing.T) {
	for _, l := range []*Link{with(0, 0), with(0, 9), with(0, 0, 1), with(0, 0, 15), with(0, 0, 16), with(0, 9, 3), with(0, 0, 1, 2, 3, 4, 5, 6, 7, 8, 9, 10, 11, 12, 13, 14, 15, 16, 17)} {
		if l.Tick(95); !l.Alive() {
			t.Error("fifteen were missed")
		}
		l.Tick(95)
		if l.Tick(96); l.Alive() {
			t.Error("sixteen were missed")
		}
	}
}

// P14.1, P14.2: what the neighbor tells is 1 at least; it is what the way costs while it is heard.
func TestHeard(t *testing.T) {
	for cost := range 65536 {
		l := with(5, 0, 1)
		l.Heard(uint16(cost), 5)
		if got := l.Cost(); int(got) != max(cost, 1) || l.Receives() != 96 || !l.Alive() {
			t.Fatalf("it tells %d: %d, %d, %v", cost, got, l.Receives(), l.Alive())
		}
	}
}

// P14.1: the last thing that was told holds: lesser or greater, none among them.
func TestHeardAgain(t *testing.T) {
	l := with(5, 0, 1)
	for _, cost := range []uint16{96, 50, 200, 1, 65534, 65535, 3, 65535, 96} {
		l.Heard(cost, 5)
		want(t, "told again", l, 96, cost, true)
	}
}

// P14.1: what the neighbor tells holds until Hold is over, not for longer, and each telling begins that anew.
func TestHolds(t *testing.T) {
	for _, now := range starts {
		l := New(now)
		l.Heard(77, now)
		for later := range uint64(20) {
			l.Hello(later, now+later)
			l.Tick(now + later)
			if later > 0 {
				want(t, "it holds", l, 96, 77, true)
			}
		}
		l.Hello(20, now+20)
		want(t, "no Tick came", l, 96, 77, true)
		l.Tick(now + 20)
		wantGood(t, "it holds no more", l)
		l.Tick(now + 10)
		wantGood(t, "nor for an earlier Tick", l)
		l.Heard(78, now+20)
		l.Heard(79, now+21)
		l.Hello(21, now+38)
		l.Tick(now + 40)
		want(t, "told anew", l, 96, 79, true)
		l.Heard(80, now+15)
		l.Tick(now + 34)
		want(t, "told at an earlier time", l, 96, 80, true)
		l.Tick(now + 35)
		wantGood(t, "until that and Hold", l)
	}
}

// P14.1: what the neighbor tells goes by its own time, whether hellos come or not.
func TestHeardWithoutHellos(t *testing.T) {
	l := New(0)
	l.Heard(42, 0)
	wantDead(t, "no hello came", l)
	l.Hello(0, 18)
	l.Tick(19)
	wantPoor(t, "one hello came", l)
	l.Hello(1, 19)
	want(t, "it holds still", l, 96, 42, true)
	l.Tick(20)
	wantGood(t, "it holds no more", l)

	l = New(0)
	l.Heard(42, 0)
	l.Tick(20)
	l.Hello(0, 20)
	l.Hello(1, 20)
	wantGood(t, "it held no more ahead of all hellos", l)

	l = with(0, 0, 1)
	l.Heard(42, 90)
	l.Tick(100)
	wantDead(t, "all are missed", l)
	l.Hello(7, 100)
	l.Hello(8, 100)
	want(t, "begun anew, it holds still", l, 96, 42, true)
}

// P14.1: at the last time of which something is promised all goes as ever.
func TestLastTime(t *testing.T) {
	l := New(mostTime)
	l.Hello(0, mostTime)
	l.Hello(1, mostTime)
	l.Heard(5, mostTime)
	l.Tick(mostTime)
	want(t, "nothing is over", l, 96, 5, true)
	l = with(mostTime-12, 0, 1)
	l.Heard(5, mostTime-20)
	l.Tick(mostTime - 1)
	want(t, "one is missed", l, 96, 5, true)
	l.Hello(3, mostTime-12)
	l.Tick(mostTime)
	wantPoor(t, "two are missed, and it holds no more", l)
}

// P14.2: of a nil Link: Endless, false.
func TestNil(t *testing.T) {
	var l *Link
	for range 2 {
		wantDead(t, "nil", l)
		l.Hello(0, 0)
		l.Hello(1, 0)
		l.Heard(5, 0)
		l.Tick(0)
		l.Tick(math.MaxUint64)
	}
}

// P14.1: a link knows nothing of what another one was told.
func TestTwoLinks(t *testing.T) {
	l, other := New(0), New(0)
	l.Hello(0, 0)
	l.Hello(1, 0)
	l.Heard(5, 0)
	wantDead(t, "the other one", other)
	other.Hello(9, 0)
	other.Heard(6, 0)
	other.Tick(1000)
	want(t, "the first one", l, 96, 5, true)
}
