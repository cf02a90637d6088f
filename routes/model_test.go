package routes

import (
	"math"
	"testing"

	"milestone/api"
	"milestone/source"
)

// was is an act of telling, as it was told.
type was struct {
	by   int
	p    api.Prefix
	node int
	m    api.Mark
	now  uint64
}

// model is Routes as the document tells them: all that was ever told, and not taken away, in the order in which it was; the last one of a prefix and a teller holds.
type model []was

// isRight goes through a prefix bit by bit.
func isRight(p api.Prefix) bool {
	for i := int(p.Len); i < 32; i++ {
		if p.Addr>>(31-i)&1 == 1 {
			return false
		}
	}
	return p.Len < 33
}

// isAhead tells by addresses, then lengths.
func isAhead(p, q api.Prefix) bool {
	return uint64(p.Addr)<<8|uint64(p.Len) < uint64(q.Addr)<<8|uint64(q.Len)
}

// without is a model without what was told in some acts.
func (l model) without(gone func(was) bool) model {
	var left model
	for _, w := range l {
		if !gone(w) {
			left = append(left, w)
		}
	}
	return left
}

// tell takes an act of telling in, or tells why not.
func (l model) tell(w was) (model, api.Errno) {
	if w.by < 0 || w.by > 15 || w.node < 0 || w.node > 15 || !isRight(w.p) {
		return l, api.ErrArg
	}
	left := l.without(func(x was) bool { return x.by == w.by && x.p == w.p })
	if w.m.Metric == 65535 {
		return left, api.OK
	}
	if len(left) == 256 {
		return l, api.ErrFull
	}
	return append(left, w), api.OK
}

// rising is what holds, by prefixes, then tellers: the least one that is left, one by one.
func (l model) rising() []Told {
	var told []Told
	for len(l) > 0 {
		least := l[0]
		for _, w := range l {
			if isAhead(w.p, least.p) || w.p == least.p && w.by < least.by {
				least = w
			}
		}
		told = append(told, Told{P: least.p, By: least.by, Node: least.node, M: least.m, Until: least.now + 50})
		l = l.without(func(w was) bool { return w == least })
	}
	return told
}

// choices are the ways that are chosen, and the prefixes that are blocked: each told one is held against all others.
func (l model) choices(s *source.Source, costs []uint16) ([]api.Route, []api.Prefix) {
	var ways []api.Route
	var blocked []api.Prefix
	told := l.rising()
	for i, x := range told {
		if best := true; isWay(x, s, costs) {
			for _, y := range told {
				nearer := sum(y, costs) < sum(x, costs) || sum(y, costs) == sum(x, costs) && y.By < x.By
				if y.P == x.P && isWay(y, s, costs) && nearer {
					best = false
				}
			}
			if best {
				ways = append(ways, api.Route{P: x.P, Via: x.By, Metric: uint16(sum(x, costs)), Seq: x.M.Seq})
			}
		}
		none := i == 0 || told[i-1].P != x.P
		for _, y := range told {
			if y.P == x.P && s.Feasible(y.P, y.M) {
				none = false
			}
		}
		if none {
			blocked = append(blocked, x.P)
		}
	}
	return ways, blocked
}

func isWay(x Told, s *source.Source, costs []uint16) bool {
	return x.By < len(costs) && costs[x.By] != 65535 && sum(x, costs) < 65535 && s.Feasible(x.P, x.M)
}

func sum(x Told, costs []uint16) int {
	if x.By >= len(costs) {
		return math.MaxInt
	}
	return int(x.M.Metric) + int(costs[x.By])
}

// chance tells numbers that look like any.
type chance uint32

func (x *chance) below(n int) int {
	*x = *x*1664525 + 1013904223
	return int(*x>>8) % n
}

// anyPrefix is one of a few, of many, or one that isn't Right.
func (x *chance) anyPrefix() api.Prefix {
	switch x.below(10) {
	case 0:
		return wrongs[x.below(len(wrongs))]
	case 1, 2:
		return nth(x.below(300))
	}
	return rights[x.below(len(rights))]
}

// anyNode is mostly one, mostly a low one.
func (x *chance) anyNode() int {
	switch x.below(40) {
	case 0:
		return noNodes[x.below(len(noNodes))]
	case 1, 2, 3, 4, 5, 6, 7, 8:
		return x.below(16)
	}
	return x.below(4)
}

// anyMark is mostly of a few serials and short.
func (x *chance) anyMark() api.Mark {
	m := mark(uint16(65534+x.below(4)), uint16(x.below(6)*10))
	switch x.below(10) {
	case 0:
		m.Metric = 65535
	case 1:
		m.Metric = []uint16{65533, 65534, 65500, 32768}[x.below(4)]
	case 2:
		m.Metric = uint16(x.below(65536))
	}
	return m
}

// anyCosts are some of some nodes.
func (x *chance) anyCosts() []uint16 {
	costs := make([]uint16, x.below(20))
	for i := range costs {
		switch x.below(6) {
		case 0:
			costs[i] = 65535
		case 1:
			costs[i] = uint16(x.below(65536))
		default:
			costs[i] = uint16(x.below(4) * 10)
		}
	}
	return costs
}

// seen is how often what came.
type seen struct{ told, endless, arg, full, ticked, dropped, ways, blocked int }

func (n *seen) count(m api.Mark, e api.Errno) {
	switch {
	case e == api.ErrArg:
		n.arg++
	case e == api.ErrFull:
		n.full++
	case m.Metric == 65535:
		n.endless++
	default:
		n.told++
	}
}

// walk is Routes and their model, told the same, with a Source that is Lowered now and then.
type walk struct {
	chance
	r    *Routes
	l    model
	s    *source.Source
	now  uint64
	pace int
	seen
}

func (w *walk) step(t *testing.T) {
	switch k := w.below(100); {
	case k < 3 && w.pace > 0:
		w.now += uint64(w.below(w.pace))
		w.r.Tick(w.now)
		left := w.l.without(func(x was) bool { return x.now+50 <= w.now })
		w.ticked += len(w.l) - len(left)
		w.l = left
	case k < 5 && w.pace > 0:
		by := w.anyNode()
		w.r.Drop(by)
		left := w.l.without(func(x was) bool { return x.by == by })
		w.dropped += len(w.l) - len(left)
		w.l = left
	case k < 10:
		w.s.Lower(w.anyPrefix(), w.anyMark())
	default:
		w.tell(t)
	}
}

func (w *walk) tell(t *testing.T) {
	x := was{w.anyNode(), w.anyPrefix(), w.anyNode(), w.anyMark(), w.now + uint64(w.below(3))}
	if w.pace == 0 {
		x.by, x.p = w.below(16), nth(w.below(300))
	}
	l, want := w.l.tell(x)
	if e := w.r.Tell(x.by, x.p, x.node, x.m, x.now); e != want {
		t.Fatalf("Tell(%v) = %d, not %d", x, e, want)
	}
	w.l = l
	w.count(x.m, want)
}

// wantSame asks that Routes and their model tell the same.
func (w *walk) wantSame(t *testing.T) {
	t.Helper()
	costs := w.anyCosts()
	ways, blocked := w.l.choices(w.s, costs)
	wantAll(t, w.r, w.l.rising()...)
	wantSelect(t, w.r, w.s, costs, ways...)
	wantBlocked(t, w.r, w.s, blocked...)
	w.ways += len(ways)
	w.blocked += len(blocked)
}

// P16.1, P16.2, P2: Routes tell what the document's words come to, whatever they were told.
func TestAsAModel(t *testing.T) {
	w := walk{chance: 16}
	for i := range 120 {
		w.r, w.l, w.s, w.now, w.pace = New(), nil, source.New(), 0, []int{0, 20, 40, 120}[i%4]
		if i%8 == 7 {
			w.s = nil
		}
		for j := range 400 {
			w.step(t)
			if j%20 == 0 {
				w.wantSame(t)
			}
		}
		if t.Failed() {
			t.FailNow()
		}
	}
	if w.told < 20000 || w.endless < 2000 || w.arg < 1000 || w.full < 500 || w.ticked < 2000 || w.dropped < 500 || w.ways < 2000 || w.blocked < 500 {
		t.Errorf("these came: %+v", w.seen)
	}
}

// P1: every call ends and none panics, at any arguments.
func TestEveryCallEnds(t *testing.T) {
	x := chance(17)
	times := []uint64{0, 1, 49, 50, 1 << 62, 1<<63 - 1, 1 << 63, math.MaxUint64 - 50, math.MaxUint64}
	for _, r := range []*Routes{nil, {}, New(), full(t, 16), full(t, 1)} {
		for i := range 3000 {
			p := api.Prefix{Addr: uint32(x.below(1 << 20)), Len: uint8(x.below(256))}
			if x.below(2) == 0 {
				p = x.anyPrefix()
			}
			s := []*source.Source{nil, source.New(), {}}[x.below(3)]
			s.Lower(p, x.anyMark())
			r.Tell(x.anyNode(), p, x.anyNode(), x.anyMark(), times[x.below(len(times))])
			r.Select(s, x.anyCosts())
			r.Blocked(s)
			if i%50 == 0 {
				r.Tick(times[x.below(len(times))])
			}
			if i%50 == 25 {
				r.Drop(x.anyNode())
			}
			if len(r.All()) > 256 {
				t.Fatal(len(r.All()))
			}
		}
	}
}
