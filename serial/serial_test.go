package serial

import (
	"math"
	"slices"
	"testing"

	"milestone/api"
)

// serials are ordinary ones and those at the edges.
var serials = []uint16{0, 1, 2, 300, 32766, 32767, 32768, 32769, 40000, 65534, 65535}

// P2.1: Newer asks whether the difference, going round, is from 1 to 32767.
func TestNewer(t *testing.T) {
	for _, b := range serials {
		for d := range 65536 {
			a := uint16((int(b) + d) % 65536)
			if got, want := Newer(a, b), 1 <= d && d <= 32767; got != want {
				t.Fatalf("Newer(%d, %d) = %v", a, b, got)
			}
		}
	}
	if !Newer(0, 65535) || Newer(65535, 0) {
		t.Error("Newer: where serials go round")
	}
}

// P2.1: Next adds modulo 65536, backward too.
func TestNext(t *testing.T) {
	steps := []int{0, 1, 2, -1, -2, 65535, 65536, 65537, -65535, -65536, -65537, 32768, -32768, 1 << 20, 1<<31 - 1, -1 << 31, math.MaxInt, math.MinInt}
	for _, a := range serials {
		for _, n := range steps {
			want := uint16((int(a) + (n%65536 + 65536)) % 65536)
			if got := Next(a, n); got != want {
				t.Errorf("Next(%d, %d) = %d, not %d", a, n, got, want)
			}
		}
	}
	if Next(65535, 1) != 0 || Next(0, -1) != 65535 || Next(7, 0) != 7 {
		t.Error("Next: at the edges")
	}
}

// P2.1: Latest begins with the first one, and takes each that is Newer in its place; of none it is 0.
func TestLatest(t *testing.T) {
	lists := []struct {
		l    []uint16
		want uint16
	}{
		{nil, 0},
		{[]uint16{}, 0},
		{[]uint16{0}, 0},
		{[]uint16{65535}, 65535},
		{[]uint16{7, 7, 7}, 7},
		{[]uint16{1, 2, 3}, 3},
		{[]uint16{3, 2, 1}, 3},
		{[]uint16{2, 3, 1}, 3},
		{[]uint16{65530, 3, 65535}, 3},
		{[]uint16{3, 65535, 65530}, 3},
		{[]uint16{65535, 0}, 0},
		{[]uint16{40000, 50000, 60000}, 60000},
		{[]uint16{0, 32767}, 32767},
		{[]uint16{32767, 0}, 32767},
		// Half of all apart, neither is Newer: the first one stays.
		{[]uint16{0, 32768}, 0},
		{[]uint16{32768, 0}, 32768},
		// One after the other, right round.
		{[]uint16{0, 30000, 60000, 20000}, 20000},
	}
	for _, x := range lists {
		before := slices.Clone(x.l)
		if got := Latest(x.l...); got != x.want {
			t.Errorf("Latest(%v) = %d, not %d", x.l, got, x.want)
		}
		if !slices.Equal(before, x.l) {
			t.Errorf("Latest wrote over %v", before)
		}
	}
	if Latest() != 0 {
		t.Error("Latest of none")
	}
}

// P2.1: of serials within less than half of all, Latest is the same from wherever they are begun.
func TestLatestOfAnyOrder(t *testing.T) {
	for _, first := range serials {
		l := []uint16{first, Next(first, 1), Next(first, 9000), Next(first, 32766)}
		want := l[3]
		for range len(l) {
			l = append(l[1:], l[0])
			if got := Latest(l...); got != want {
				t.Errorf("Latest(%v) = %d, not %d", l, got, want)
			}
		}
	}
}

// pairs are marks, the second one nearer than the first one.
var pairs = [][2]api.Mark{
	{{Seq: 1, Metric: 96}, {Seq: 1, Metric: 95}},
	{{Seq: 1, Metric: 96}, {Seq: 2, Metric: 96}},
	{{Seq: 1, Metric: 96}, {Seq: 2, Metric: 500}},
	{{Seq: 1, Metric: 500}, {Seq: 2, Metric: 96}},
	{{Seq: 65535, Metric: 0}, {Seq: 0, Metric: 65535}},
	{{Seq: 0, Metric: 1}, {Seq: 0, Metric: 0}},
	{{Seq: 0, Metric: 65535}, {Seq: 0, Metric: 65534}},
	{{Seq: 0, Metric: 0}, {Seq: 32767, Metric: 0}},
}

// P2.1: Nearer goes by the newer serial, of one serial by the lesser metric.
func TestNearer(t *testing.T) {
	for _, x := range pairs {
		if !Nearer(x[1], x[0]) || Nearer(x[0], x[1]) || Nearer(x[0], x[0]) || Nearer(x[1], x[1]) {
			t.Errorf("Nearer: of %v", x)
		}
	}
	far, near := api.Mark{Seq: 0, Metric: 9}, api.Mark{Seq: 32768, Metric: 1}
	if Nearer(near, far) || Nearer(far, near) {
		t.Error("Nearer: of serials that are half of all apart")
	}
}

// P2.1: Best is the second one where it is Nearer, else the first one.
func TestBest(t *testing.T) {
	for _, x := range pairs {
		if Best(x[0], x[1]) != x[1] || Best(x[1], x[0]) != x[1] || Best(x[0], x[0]) != x[0] {
			t.Errorf("Best: of %v", x)
		}
	}
	a, b := api.Mark{Seq: 0, Metric: 9}, api.Mark{Seq: 32768, Metric: 1}
	if Best(a, b) != a || Best(b, a) != b {
		t.Error("Best: of two of which neither is Nearer")
	}
	if Best(api.Mark{}, api.Mark{}) != (api.Mark{}) {
		t.Error("Best: of two empty ones")
	}
}

// P2.1: Sum is both together, Endless at most.
func TestSum(t *testing.T) {
	for _, a := range serials {
		for b := range 65536 {
			want := min(int(a)+b, api.Endless)
			if got := Sum(a, uint16(b)); int(got) != want {
				t.Fatalf("Sum(%d, %d) = %d, not %d", a, b, got, want)
			}
		}
	}
	if Sum(65534, 1) != api.Endless || Sum(65533, 1) != 65534 || Sum(65535, 65535) != api.Endless {
		t.Error("Sum: at the edges")
	}
}

// P1, P2: every call ends, whatever it is given, and answers the same the second time.
func TestAnswersHangOnNothingElse(t *testing.T) {
	for _, a := range serials {
		for _, b := range serials {
			m, n := api.Mark{Seq: a, Metric: b}, api.Mark{Seq: b, Metric: a}
			newer, latest, nearer, best := Newer(a, b), Latest(a, b, a), Nearer(m, n), Best(m, n)
			next, sum := Next(a, int(b)), Sum(a, b)
			Latest(serials...)
			if Newer(a, b) != newer || Latest(a, b, a) != latest || Nearer(m, n) != nearer || Best(m, n) != best || Next(a, int(b)) != next || Sum(a, b) != sum {
				t.Errorf("of %d and %d", a, b)
			}
		}
	}
}
