package routes

import (
	"math"
	"slices"
	"testing"

	"milestone/api"
	"milestone/source"
)

// of is a prefix of an address's first bits.
func of(addr uint32, n int) api.Prefix {
	if n == 0 {
		return api.Prefix{}
	}
	return api.Prefix{Addr: addr >> (32 - n) << (32 - n), Len: uint8(n)}
}

// nth is one of many prefixes, all unlike, rising.
func nth(i int) api.Prefix {
	return of(uint32(i)<<8, 24)
}

var (
	all    = of(0, 0)
	ten    = of(0x0a000000, 8)
	tenOne = of(0x0a000000, 16)
	eleven = of(0x0b000000, 8)
	single = of(0xffffffff, 32)
	// rights rise.
	rights = []api.Prefix{all, ten, tenOne, eleven, single}
	wrongs = []api.Prefix{
		{Len: 33}, {Len: 64}, {Len: 255}, {Addr: 0x0a000000, Len: 40}, {Addr: 1}, {Addr: 0x80000000},
		{Addr: 0x0a000001, Len: 8}, {Addr: 0x0a800000, Len: 8}, {Addr: 0xffffffff, Len: 31},
	}
	noNodes = []int{-1, 16, 17, 255, 256, 65536, -16, math.MinInt, math.MaxInt, 1 << 32}
)

func mark(seq, metric uint16) api.Mark {
	return api.Mark{Seq: seq, Metric: metric}
}

func route(p api.Prefix, via int, metric, seq uint16) api.Route {
	return api.Route{P: p, Via: via, Metric: metric, Seq: seq}
}

// tell asks that what is told is taken.
func tell(t *testing.T, r *Routes, by int, p api.Prefix, node int, m api.Mark, now uint64) {
	t.Helper()
	if e := r.Tell(by, p, node, m, now); e != api.OK {
		t.Errorf("Tell(%d, %v, %d, %v, %d) = %d", by, p, node, m, now, e)
	}
}

// refused asks that what is told is refused, and that nothing has changed.
func refused(t *testing.T, r *Routes, by int, p api.Prefix, node int, m api.Mark, want api.Errno) {
	t.Helper()
	before := r.All()
	if e := r.Tell(by, p, node, m, 1000); e != want {
		t.Errorf("Tell(%d, %v, %d, %v) = %d, not %d", by, p, node, m, e, want)
	}
	wantAll(t, r, before...)
}

func wantAll(t *testing.T, r *Routes, want ...Told) {
	t.Helper()
	if got := r.All(); !slices.Equal(got, want) {
		t.Errorf("All = %v, not %v", got, want)
	}
}

func wantSelect(t *testing.T, r *Routes, s *source.Source, costs []uint16, want ...api.Route) {
	t.Helper()
	if got := r.Select(s, costs); !slices.Equal(got, want) {
		t.Errorf("Select = %v, not %v", got, want)
	}
}

func wantBlocked(t *testing.T, r *Routes, s *source.Source, want ...api.Prefix) {
	t.Helper()
	if got := r.Blocked(s); !slices.Equal(got, want) {
		t.Errorf("Blocked = %v, not %v", got, want)
	}
}

// lowered is a Source of one mark.
func lowered(t *testing.T, p api.Prefix, m api.Mark) *source.Source {
	t.Helper()
	s := source.New()
	if e := s.Lower(p, m); e != api.OK {
		t.Fatal(e)
	}
	return s
}

// flat is the same cost of each node.
func flat(cost uint16) []uint16 {
	return slices.Repeat([]uint16{cost}, api.MaxNodes)
}

// P16.2: the document's example.
func TestExample(t *testing.T) {
	r := New()
	tell(t, r, 1, ten, 5, mark(1, 96), 0)
	tell(t, r, 2, ten, 5, mark(1, 50), 0)
	wantSelect(t, r, source.New(), flat(96), route(ten, 2, 146, 1))
}

// P16.1: a New one has nothing, and takes away nothing.
func TestNew(t *testing.T) {
	r := New()
	if r == nil {
		t.Fatal("nil")
	}
	wantAll(t, r)
	r.Tick(0)
	r.Tick(math.MaxUint64)
	r.Drop(0)
	tell(t, r, 0, ten, 0, mark(0, api.Endless), 0)
	wantAll(t, r)
	wantSelect(t, r, source.New(), flat(1))
	wantBlocked(t, r, source.New())
}

// P16.1: what is told is that, from 50 on behind now; each teller's of each prefix is its own.
func TestTell(t *testing.T) {
	if Hold != 50 {
		t.Error(Hold)
	}
	r := New()
	tell(t, r, 15, ten, 0, mark(65535, 65534), 7)
	first := Told{P: ten, By: 15, Node: 0, M: mark(65535, 65534), Until: 57}
	wantAll(t, r, first)
	tell(t, r, 0, eleven, 15, mark(0, 0), 0)
	second := Told{P: eleven, By: 0, Node: 15, Until: 50}
	wantAll(t, r, first, second)
	tell(t, r, 0, ten, 3, mark(4, 5), 1<<62)
	third := Told{P: ten, By: 0, Node: 3, M: mark(4, 5), Until: 1<<62 + 50}
	wantAll(t, r, third, first, second)
	tell(t, r, 0, tenOne, 3, mark(4, 5), 1<<63-1)
	wantAll(t, r, third, first, Told{P: tenOne, By: 0, Node: 3, M: mark(4, 5), Until: 1<<63 + 49}, second)
}

// P16.1: what is told anew is all that is told: nearer or not, of a newer serial or not, later or not, of whichever node.
func TestTellAnew(t *testing.T) {
	r := New()
	tell(t, r, 1, ten, 9, mark(3, 300), 100)
	tell(t, r, 2, ten, 8, mark(3, 300), 100)
	other := Told{P: ten, By: 2, Node: 8, M: mark(3, 300), Until: 150}
	for _, x := range []struct {
		node int
		m    api.Mark
		now  uint64
	}{
		{9, mark(3, 300), 101}, {9, mark(3, 500), 101}, {9, mark(3, 100), 102}, {9, mark(4, 65534), 103}, {9, mark(2, 0), 104},
		{7, mark(2, 0), 104}, {7, mark(2, 0), 20}, {1, mark(65535, 1), 0}, {0, mark(0, 0), 900},
	} {
		tell(t, r, 1, ten, x.node, x.m, x.now)
		wantAll(t, r, Told{P: ten, By: 1, Node: x.node, M: x.m, Until: x.now + 50}, other)
	}
}

// P16.1: by Endless one tells nothing of a prefix any more, of whatever serial and node; others do, and it of others.
func TestTellEndless(t *testing.T) {
	for _, seq := range []uint16{0, 1, 3, 4, 40000, 65535} {
		r := New()
		for by := range 3 {
			for _, p := range rights {
				tell(t, r, by, p, 5, mark(3, 30), 10)
			}
		}
		want := r.All()
		for _, x := range []Told{{P: tenOne, By: 1, Node: 5}, {P: all, By: 0, Node: 0}, {P: single, By: 2, Node: 15}, {P: ten, By: 2}} {
			tell(t, r, x.By, x.P, x.Node, mark(seq, 65535), 0)
			want = slices.DeleteFunc(want, func(y Told) bool { return x.P == y.P && x.By == y.By })
			wantAll(t, r, want...)
			tell(t, r, x.By, x.P, x.Node, mark(seq, 65535), 1<<60)
			wantAll(t, r, want...)
		}
		tell(t, r, 9, ten, 5, mark(seq, 65535), 10)
		wantAll(t, r, want...)
		if len(want) != 11 {
			t.Error(len(want))
		}
	}
}

// P16.1: 65534 isn't Endless.
func TestTellNearlyEndless(t *testing.T) {
	r := New()
	tell(t, r, 1, ten, 5, mark(3, 65534), 10)
	wantAll(t, r, Told{P: ten, By: 1, Node: 5, M: mark(3, 65534), Until: 60})
}

// P16.1: ErrArg, and nothing has changed: numbers that aren't nodes', prefixes that aren't Right, of what is Endless too.
func TestTellWrong(t *testing.T) {
	r := New()
	for _, p := range rights {
		for by := range 16 {
			tell(t, r, by, p, 15-by, mark(9, 9), 10)
		}
	}
	for _, m := range []api.Mark{{}, mark(10, 1), mark(0, 65535), mark(65535, 65535)} {
		for _, n := range noNodes {
			for _, p := range rights {
				refused(t, r, n, p, 0, m, api.ErrArg)
				refused(t, r, 15, p, n, m, api.ErrArg)
				refused(t, r, n, p, n, m, api.ErrArg)
			}
		}
		for _, p := range wrongs {
			refused(t, r, 0, p, 0, m, api.ErrArg)
			refused(t, r, 15, p, 15, m, api.ErrArg)
			refused(t, r, 16, p, -1, m, api.ErrArg)
		}
	}
	refused(t, New(), 16, ten, 0, mark(1, 1), api.ErrArg)
	refused(t, New(), 0, ten, 16, mark(1, 1), api.ErrArg)
	refused(t, New(), 0, wrongs[0], 0, mark(1, 1), api.ErrArg)
}

// full has as many as may be: by so many tellers of each prefix.
func full(t *testing.T, tellers int) *Routes {
	t.Helper()
	r := New()
	for i := range 256 {
		tell(t, r, i%tellers, nth(i/tellers), 3, mark(9, 500), 10)
		if n := len(r.All()); n != i+1 {
			t.Fatalf("%d behind %d", n, i+1)
		}
	}
	return r
}

// P16.1: MaxRoutes works, whosesoever they are; one beyond is ErrFull, a teller or a prefix; what is told is told anew; ErrArg goes ahead.
func TestFull(t *testing.T) {
	for _, tellers := range []int{1, 2, 16} {
		r := full(t, tellers)
		for _, p := range []api.Prefix{nth(256), single, of(0, 25), all} {
			for _, m := range []api.Mark{{}, mark(9, 500), mark(10, 65534)} {
				refused(t, r, 0, p, 3, m, api.ErrFull)
				refused(t, r, 15, p, 0, m, api.ErrFull)
			}
			before := r.All()
			tell(t, r, 0, p, 3, mark(9, 65535), 10)
			wantAll(t, r, before...)
			refused(t, r, 16, p, 3, mark(9, 500), api.ErrArg)
			refused(t, r, 0, p, -1, mark(9, 500), api.ErrArg)
		}
		if tellers < 16 {
			refused(t, r, tellers, nth(0), 3, mark(9, 1), api.ErrFull)
		}
		refused(t, r, 0, wrongs[0], 3, mark(9, 500), api.ErrArg)
		tell(t, r, 1%tellers, nth(1/tellers), 4, mark(10, 1), 20)
		want := full(t, tellers).All()
		want[1] = Told{P: nth(1 / tellers), By: 1 % tellers, Node: 4, M: mark(10, 1), Until: 70}
		wantAll(t, r, want...)
	}
}

// P16.1: where something is gone there is room for as many again.
func TestRoomAgain(t *testing.T) {
	gone := []func(r *Routes) int{
		func(r *Routes) int { tell(t, r, 0, nth(3), 3, mark(1, 65535), 0); return 1 },
		func(r *Routes) int { tell(t, r, 15, nth(3), 3, mark(1, 1), 0); r.Tick(59); return 1 },
		func(r *Routes) int { r.Drop(7); return 16 },
		func(r *Routes) int { r.Tick(60); return 256 },
	}
	for i, take := range gone {
		r := full(t, 16)
		for j := range take(r) {
			if e := r.Tell(j%16, nth(100+j/16), 1, mark(1, 1), 0); e != api.OK {
				t.Errorf("%d behind way %d of going: %d", j, i, e)
			}
		}
		refused(t, r, 0, single, 1, mark(1, 1), api.ErrFull)
	}
}

// P16.1: Tick takes what holds until now, or less; until it comes all stays.
func TestTick(t *testing.T) {
	r := New()
	tell(t, r, 1, ten, 5, mark(1, 1), 0)
	tell(t, r, 2, ten, 5, mark(1, 1), 1)
	tell(t, r, 1, eleven, 5, mark(1, 1), 30)
	tell(t, r, 1, all, 5, mark(1, 1), 1<<62)
	want := r.All()
	for _, now := range []uint64{0, 1, 30, 49} {
		r.Tick(now)
		wantAll(t, r, want...)
	}
	r.Tick(50)
	wantAll(t, r, want[0], want[2], want[3])
	r.Tick(0)
	r.Tick(50)
	wantAll(t, r, want[0], want[2], want[3])
	tell(t, r, 2, ten, 5, mark(1, 1), 2)
	r.Tick(51)
	wantAll(t, r, want[0], Told{P: ten, By: 2, Node: 5, M: mark(1, 1), Until: 52}, want[3])
	tell(t, r, 4, single, 5, mark(1, 1), 3)
	r.Tick(80)
	wantAll(t, r, want[0])
	tell(t, r, 3, single, 5, mark(1, 1), 20)
	tell(t, r, 3, tenOne, 5, mark(1, 1), 30)
	wantAll(t, r, want[0], Told{P: tenOne, By: 3, Node: 5, M: mark(1, 1), Until: 80}, Told{P: single, By: 3, Node: 5, M: mark(1, 1), Until: 70})
	wantSelect(t, r, nil, flat(1), route(all, 1, 2, 1), route(tenOne, 3, 2, 1), route(single, 3, 2, 1))
	r.Tick(1<<62 + 49)
	wantAll(t, r, want[0])
	r.Tick(1<<62 + 51)
	wantAll(t, r)
}

// P16.1: Drop takes all that one told, of every prefix, and nothing of the others, not even what is that one's.
func TestDrop(t *testing.T) {
	for by := range 16 {
		r := New()
		var want []Told
		for _, p := range rights {
			for i := range 16 {
				tell(t, r, i, p, by, mark(uint16(by), uint16(by)), uint64(by))
				if i != by {
					want = append(want, Told{P: p, By: i, Node: by, M: mark(uint16(by), uint16(by)), Until: uint64(by) + 50})
				}
			}
		}
		r.Drop(by)
		wantAll(t, r, want...)
		r.Drop(by)
		for _, n := range noNodes {
			r.Drop(n)
		}
		wantAll(t, r, want...)
	}
}

// P16.1: All is by prefixes, then by who tells it, whatever the order in which it was told.
func TestAllRises(t *testing.T) {
	var want []Told
	for _, p := range rights {
		for _, by := range []int{0, 1, 9, 10, 15} {
			want = append(want, Told{P: p, By: by, Node: 15 - by, M: mark(1, 1), Until: 50})
		}
	}
	x := chance(3)
	for range 50 {
		r := New()
		told := slices.Clone(want)
		for len(told) > 0 {
			i := x.below(len(told))
			tell(t, r, told[i].By, told[i].P, told[i].Node, told[i].M, 0)
			told = slices.Delete(told, i, i+1)
		}
		wantAll(t, r, want...)
	}
}

// P16.2: the least sum of what is told and what the way there costs, not the least of either; of several the one by the least number.
func TestSelectLeastSum(t *testing.T) {
	for _, x := range []struct {
		told  []api.Mark // by 0, 1 and so on
		costs []uint16
		via   int
		sum   uint16
	}{
		{[]api.Mark{mark(1, 100), mark(1, 10), mark(1, 50)}, []uint16{1, 100, 50}, 2, 100},
		{[]api.Mark{mark(1, 100), mark(1, 10), mark(1, 50)}, []uint16{1, 100, 51}, 0, 101},
		{[]api.Mark{mark(1, 100), mark(1, 10), mark(1, 50)}, []uint16{5, 90, 60}, 1, 100},
		{[]api.Mark{mark(1, 70), mark(1, 70), mark(1, 70)}, []uint16{7, 7, 7}, 0, 77},
		{[]api.Mark{mark(1, 70), mark(1, 60), mark(1, 50)}, []uint16{8, 17, 27}, 1, 77},
		{[]api.Mark{mark(1, 0), mark(1, 1)}, []uint16{0, 0}, 0, 0},
		{[]api.Mark{mark(1, 1), mark(1, 0)}, []uint16{0, 0}, 1, 0},
		{[]api.Mark{mark(9, 2), mark(1, 1)}, []uint16{0, 0}, 1, 1},
		{[]api.Mark{mark(1, 2), mark(9, 2)}, []uint16{1, 1}, 0, 3},
	} {
		for _, p := range rights {
			r := New()
			for by := len(x.told) - 1; by >= 0; by-- {
				tell(t, r, by, p, 9, x.told[by], 5)
			}
			wantSelect(t, r, source.New(), x.costs, route(p, x.via, x.sum, x.told[x.via].Seq))
		}
	}
}

// P16.2: where the sum is Endless, or above it, there is no way; below it there is.
func TestSelectSum(t *testing.T) {
	for _, x := range []struct{ metric, cost, sum int }{
		{0, 65534, 65534}, {65534, 0, 65534}, {65533, 1, 65534}, {32767, 32767, 65534}, {96, 65438, 65534}, {0, 0, 0},
		{0, 65535, -1}, {1, 65534, -1}, {65534, 1, -1}, {32768, 32767, -1}, {32768, 32768, -1}, {65534, 65534, -1}, {65534, 65535, -1}, {1, 65535, -1}, {65000, 1000, -1},
	} {
		r := New()
		tell(t, r, 3, ten, 9, mark(65535, uint16(x.metric)), 5)
		costs := []uint16{1, 1, 1, uint16(x.cost), 1}
		if x.sum < 0 {
			wantSelect(t, r, source.New(), costs)
			tell(t, r, 2, ten, 9, mark(0, 65533), 5)
			wantSelect(t, r, source.New(), costs, route(ten, 2, 65534, 0))
		} else {
			wantSelect(t, r, source.New(), costs, route(ten, 3, uint16(x.sum), 65535))
		}
		wantBlocked(t, r, source.New())
	}
}

// P16.2: behind the end of costs each is Endless; more costs than nodes change nothing.
func TestSelectCosts(t *testing.T) {
	r := New()
	for by := range 16 {
		tell(t, r, by, ten, 9, mark(1, uint16(1000-by)), 5)
	}
	wantSelect(t, r, source.New(), nil)
	wantSelect(t, r, source.New(), []uint16{})
	for n := 1; n <= 16; n++ {
		wantSelect(t, r, source.New(), flat(7)[:n], route(ten, n-1, uint16(1000-n+1+7), 1))
	}
	wantSelect(t, r, source.New(), append(flat(7), 0, 0, 0), route(ten, 15, 992, 1))
	for by := range 16 {
		costs := flat(65535)
		wantSelect(t, r, source.New(), costs)
		costs[by] = 4
		wantSelect(t, r, source.New(), costs, route(ten, by, uint16(1000-by+4), 1))
	}
	wantBlocked(t, r, source.New())
}

// P16.2: what isn't Feasible is no way, however short; by the mark that is told, not by the sum.
func TestSelectFeasible(t *testing.T) {
	r := New()
	tell(t, r, 1, ten, 9, mark(5, 100), 5)
	tell(t, r, 2, ten, 9, mark(5, 300), 5)
	tell(t, r, 3, ten, 9, mark(6, 900), 5)
	tell(t, r, 4, ten, 9, mark(4, 0), 5)
	for _, x := range []struct {
		mark api.Mark
		want []api.Route
	}{
		{mark(3, 0), []api.Route{route(ten, 4, 50, 4)}},
		{mark(4, 0), []api.Route{route(ten, 1, 150, 5)}},
		{mark(5, 101), []api.Route{route(ten, 1, 150, 5)}},
		{mark(5, 100), []api.Route{route(ten, 3, 950, 6)}},
		{mark(6, 901), []api.Route{route(ten, 3, 950, 6)}},
		{mark(6, 900), nil},
		{mark(7, 65534), nil},
	} {
		s := lowered(t, ten, x.mark)
		wantSelect(t, r, s, flat(50), x.want...)
		if len(x.want) > 0 {
			wantBlocked(t, r, s)
		} else {
			wantBlocked(t, r, s, ten)
		}
		if m, _ := s.Mark(ten); m != x.mark || s.Len() != 1 {
			t.Errorf("the mark %v was %v", m, x.mark)
		}
	}
	wantSelect(t, r, lowered(t, tenOne, mark(9, 0)), flat(50), route(ten, 4, 50, 4))
}

// P16.2: one way of each prefix, rising, whatever the others have; of what is told last.
func TestSelectEach(t *testing.T) {
	r := New()
	for i, p := range []api.Prefix{single, ten, all, tenOne, eleven} {
		tell(t, r, 3-i%2, p, 9, mark(uint16(i), 20), 5)
		tell(t, r, 1, p, 9, mark(uint16(i), 99), 5)
	}
	wantSelect(t, r, nil, flat(1), route(all, 3, 21, 2), route(ten, 2, 21, 1), route(tenOne, 2, 21, 3), route(eleven, 3, 21, 4), route(single, 3, 21, 0))
	wantSelect(t, r, lowered(t, tenOne, mark(3, 20)), flat(1), route(all, 3, 21, 2), route(ten, 2, 21, 1), route(eleven, 3, 21, 4), route(single, 3, 21, 0))
	wantSelect(t, r, nil, []uint16{1, 65535, 5, 65535}, route(ten, 2, 25, 1), route(tenOne, 2, 25, 3))
	tell(t, r, 3, all, 9, mark(2, 300), 5)
	tell(t, r, 2, tenOne, 9, mark(3, 65535), 5)
	r.Drop(0)
	wantSelect(t, r, nil, flat(1), route(all, 1, 100, 2), route(ten, 2, 21, 1), route(tenOne, 1, 100, 3), route(eleven, 3, 21, 4), route(single, 3, 21, 0))
	r.Drop(1)
	wantSelect(t, r, nil, flat(1), route(all, 3, 301, 2), route(ten, 2, 21, 1), route(eleven, 3, 21, 4), route(single, 3, 21, 0))
}

// P16.2: Blocked are the prefixes of which nothing that is told is Feasible, rising; not those of which nothing is told.
func TestBlocked(t *testing.T) {
	r, s := New(), source.New()
	for _, p := range rights {
		s.Lower(p, mark(5, 100))
	}
	wantBlocked(t, r, s)
	for i, p := range []api.Prefix{single, ten, all, tenOne} {
		tell(t, r, i, p, 9, mark(5, 100), 5)
		tell(t, r, i+1, p, 9, mark(4, 0), 5)
		tell(t, r, i+2, p, 9, mark(5, 65534), 5)
	}
	wantBlocked(t, r, s, all, ten, tenOne, single)
	wantBlocked(t, r, nil)
	wantBlocked(t, r, source.New())
	wantBlocked(t, r, lowered(t, tenOne, mark(6, 0)), tenOne)
	tell(t, r, 0, ten, 9, mark(5, 99), 5)
	tell(t, r, 9, tenOne, 9, mark(6, 65534), 5)
	wantBlocked(t, r, s, all, single)
	for _, by := range []int{2, 3, 4} {
		tell(t, r, by, all, 9, mark(9, 65535), 5)
	}
	wantBlocked(t, r, s, single)
	r.Tick(55)
	wantBlocked(t, r, s)
}

// P16.1, P16.2: a nil one has nothing: Tell is ErrNone ahead of all.
func TestNil(t *testing.T) {
	var r *Routes
	for _, n := range append([]int{0, 15}, noNodes...) {
		for _, p := range []api.Prefix{ten, wrongs[0]} {
			for _, m := range []api.Mark{{}, mark(1, 65535)} {
				if e := r.Tell(n, p, 0, m, 0); e != api.ErrNone {
					t.Errorf("Tell by %d of %v = %d", n, p, e)
				}
				if e := r.Tell(0, p, n, m, 0); e != api.ErrNone {
					t.Errorf("Tell of %d, of %v = %d", n, p, e)
				}
			}
		}
		r.Drop(n)
	}
	r.Tick(0)
	r.Tick(math.MaxUint64)
	wantAll(t, r)
	wantSelect(t, r, nil, nil)
	wantSelect(t, r, source.New(), flat(1))
	wantBlocked(t, r, nil)
	wantBlocked(t, r, lowered(t, ten, mark(1, 1)))
}

// P1: Routes that New didn't make don't panic either.
func TestZeroValue(t *testing.T) {
	var r Routes
	r.Tick(9)
	r.Drop(0)
	wantAll(t, &r)
	wantSelect(t, &r, nil, flat(1))
	wantBlocked(t, &r, nil)
	tell(t, &r, 1, ten, 2, mark(1, 1), 0)
	wantAll(t, &r, Told{P: ten, By: 1, Node: 2, M: mark(1, 1), Until: 50})
}

// P1, P2: what is handed in isn't changed, and what is answered may be written over and appended to.
func TestAnswersOfTheirOwn(t *testing.T) {
	r, s := New(), lowered(t, eleven, mark(1, 1))
	tell(t, r, 1, ten, 2, mark(1, 1), 0)
	tell(t, r, 1, eleven, 2, mark(1, 1), 0)
	tell(t, r, 1, single, 2, mark(1, 1), 0)
	tell(t, r, 1, all, 2, mark(1, 65535), 0)
	want, ways := r.All(), r.Select(s, flat(1))
	costs := append(flat(1), 7)
	for range 3 {
		told, l, blocked := r.All(), r.Select(s, costs[:16]), r.Blocked(s)
		_ = append(told[:1], Told{P: all}, Told{P: all}, Told{P: all})
		_ = append(l[:1], route(all, 9, 9, 9), route(all, 9, 9, 9))
		_ = append(blocked, all)
		told[0], l[0], blocked[0] = Told{}, api.Route{}, all
		wantAll(t, r, want...)
		wantSelect(t, r, s, costs[:16], ways...)
		wantBlocked(t, r, s, eleven)
	}
	if !slices.Equal(costs, append(flat(1), 7)) {
		t.Error(costs)
	}
	r.Drop(1)
	if len(want) != 3 || want[0].P != ten || want[2].P != single || len(ways) != 2 {
		t.Errorf("what was answered has changed: %v, %v", want, ways)
	}
}

// P2: Routes have nothing in common.
func TestRoutesOfTheirOwn(t *testing.T) {
	a, b := New(), New()
	tell(t, a, 1, ten, 2, mark(1, 1), 0)
	wantAll(t, b)
	tell(t, b, 1, ten, 3, mark(2, 2), 9)
	wantAll(t, a, Told{P: ten, By: 1, Node: 2, M: mark(1, 1), Until: 50})
	a.Tick(50)
	wantAll(t, b, Told{P: ten, By: 1, Node: 3, M: mark(2, 2), Until: 59})
}
