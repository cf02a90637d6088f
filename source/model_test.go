package source

import (
	"slices"
	"testing"

	"milestone/api"
)

// was is how near a prefix was once: its serial as it is when it doesn't go round.
type was struct{ serial, metric int }

// nearer is whether one is nearer than another one: of a greater serial, or of the same one and with a lesser metric.
func (a was) nearer(b was) bool {
	return a.serial > b.serial || a.serial == b.serial && a.metric < b.metric
}

// model is a Source as the document tells it: of each prefix all that it ever was.
type model map[api.Prefix][]was

// isRight goes through a prefix bit by bit.
func isRight(p api.Prefix) bool {
	for i := int(p.Len); i < 32; i++ {
		if p.Addr>>(31-i)&1 == 1 {
			return false
		}
	}
	return p.Len < 33
}

func (m model) lower(p api.Prefix, w was) api.Errno {
	if !isRight(p) || w.metric == 65535 {
		return api.ErrArg
	}
	if _, has := m[p]; !has && len(m) == 256 {
		return api.ErrFull
	}
	m[p] = append(m[p], w)
	return api.OK
}

// nearest is the one of all that a prefix ever was than which none is nearer.
func (m model) nearest(p api.Prefix) (was, bool) {
	if len(m[p]) == 0 {
		return was{}, false
	}
	nearest := m[p][0]
	for _, w := range m[p] {
		if w.nearer(nearest) {
			nearest = w
		}
	}
	return nearest, true
}

// feasible is whether one is nearer than a prefix ever was.
func (m model) feasible(p api.Prefix, w was) bool {
	for _, x := range m[p] {
		if !w.nearer(x) && w.metric != 65535 {
			return false
		}
	}
	return true
}

// chance tells numbers that look like any.
type chance uint32

func (x *chance) below(n int) int {
	*x = *x*1664525 + 1013904223
	return int(*x>>8) % n
}

// anyPrefix is one of a few, of many, or one that isn't Right.
func (x *chance) anyPrefix() api.Prefix {
	switch x.below(8) {
	case 0:
		return wrongs[x.below(len(wrongs))]
	case 1:
		return nth(x.below(300))
	}
	return rights[x.below(len(rights))]
}

// anyWas is one of serials within less than half of all, mostly one of a few that lie near.
func (x *chance) anyWas(first int) was {
	w := was{first + 100 + x.below(4), x.below(4)}
	switch x.below(12) {
	case 0:
		w.serial = first + []int{0, 1, 32765, 32766}[x.below(4)]
	case 1:
		w.metric = []int{96, 65533, 65534, 65535}[x.below(4)]
	case 2:
		w = was{first + x.below(32767), x.below(65536)}
	}
	return w
}

// asMark is what is told of one.
func asMark(w was) api.Mark {
	return mark(uint16(w.serial%65536), uint16(w.metric))
}

// seen is how often a Lower was taken, and refused, and how often one was feasible, and not.
type seen struct{ took, arg, full, feasible, not int }

func (n *seen) count(e api.Errno, feasible bool) {
	switch e {
	case api.OK:
		n.took++
	case api.ErrArg:
		n.arg++
	case api.ErrFull:
		n.full++
	}
	if feasible {
		n.feasible++
	} else {
		n.not++
	}
}

// wantSame asks that a Source and its model tell the same of a prefix, and of a mark.
func wantSame(t *testing.T, s *Source, m model, p api.Prefix, w was) {
	t.Helper()
	if nearest, has := m.nearest(p); has {
		want := asMark(nearest)
		wantMark(t, s, p, want.Seq, want.Metric)
	} else {
		wantNone(t, s, p)
	}
	wantFeasible(t, s, p, asMark(w), m.feasible(p, w))
	wantLen(t, s, len(m))
}

// walk Lowers a Source and its model alike, and asks ahead of and behind each step whether they tell the same.
func (x *chance) walk(t *testing.T, first, steps int, n *seen) {
	s, m := New(), model{}
	var rows []api.Row
	for range steps {
		p, w := x.anyPrefix(), x.anyWas(first)
		wantSame(t, s, m, p, w)
		feasible := s.Feasible(p, asMark(w))
		want := m.lower(p, w)
		if e := s.Lower(p, asMark(w)); e != want {
			t.Fatalf("Lower(%v, %v) = %d, not %d", p, asMark(w), e, want)
		}
		n.count(want, feasible)
		wantSame(t, s, m, p, w)
		wantSame(t, s, m, x.anyPrefix(), x.anyWas(first))
		rows = append(rows, api.Row{P: p, M: asMark(w)})
	}
	again := Of(rows)
	for i := range 300 {
		wantSame(t, again, m, nth(i), x.anyWas(first))
	}
	for _, p := range slices.Concat(rights, wrongs) {
		wantSame(t, again, m, p, x.anyWas(first))
	}
}

// P15.1, P15.2, P2: a Source tells what the document's words come to, whatever it was told, wherever serials begin.
func TestAsAModel(t *testing.T) {
	x := chance(15)
	var n seen
	for _, first := range []int{0, 1, 32767, 32768, 33000, 65435, 65535} {
		for range 60 {
			x.walk(t, first, 60, &n)
		}
		x.walk(t, first, 20000, &n)
	}
	if n.took < 50000 || n.arg < 10000 || n.full < 500 || n.feasible < 20000 || n.not < 20000 {
		t.Errorf("these came: %+v", n)
	}
}

// P15.2: what isn't feasible never is again, whatever is Lowered behind, and neither is what was Lowered itself.
func TestNeverBack(t *testing.T) {
	x := chance(16)
	for _, first := range []int{0, 32768, 65534, 65535} {
		s := New()
		var never [12][101]bool
		for range 600 {
			w := was{first + min(x.below(12), x.below(12)), x.below(100)}
			s.Lower(ten, asMark(w))
			never[w.serial-first][w.metric] = true
			for i := range never {
				for metric := range never[i] {
					feasible := s.Feasible(ten, mark(uint16((first+i)%65536), uint16(metric)))
					if feasible && never[i][metric] {
						t.Fatalf("from %d on: (%d, %d) is feasible again", first, i, metric)
					}
					never[i][metric] = !feasible
				}
			}
		}
	}
}

// P1: every call ends and none panics, at any prefixes and marks, those of serials that are half of all apart among them.
func TestEveryCallEnds(t *testing.T) {
	x := chance(17)
	edges := []uint16{0, 1, 32767, 32768, 32769, 65534, 65535}
	for _, s := range []*Source{nil, {}, New(), full(t)} {
		for range 2000 {
			p := api.Prefix{Addr: uint32(x.below(1 << 20)), Len: uint8(x.below(256))}
			if x.below(2) == 0 {
				p = x.anyPrefix()
			}
			m := mark(edges[x.below(len(edges))], edges[x.below(len(edges))])
			s.Feasible(p, m)
			s.Lower(p, m)
			s.Mark(p)
			s.Wants(p)
			if s.Len() > 256 {
				t.Fatal(s.Len())
			}
		}
	}
}
