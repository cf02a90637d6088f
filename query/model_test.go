package query

import (
	"cmp"
	"maps"
	"math"
	"slices"
	"testing"

	"milestone/api"
	"milestone/archive"
	"milestone/shelf"
)

// plenty is room for all that a test writes.
const plenty = 1 << 30

// past is what an archive was told: each change that ever was, and how many of them it no longer tells one by one.
type past struct {
	all []api.Change
	n   int
}

// horizon is from which time on all is known.
func (m *past) horizon() uint64 {
	if m.n == 0 {
		return 0
	}
	return m.all[m.n-1].Time
}

// ways are the routes of a time, told by nothing but the changes up to it.
func (m *past) ways(time uint64) map[api.Prefix]api.Route {
	l := map[api.Prefix]api.Route{}
	for _, c := range m.all {
		switch {
		case c.Time > time:
		case c.Gone:
			delete(l, c.R.P)
		default:
			l[c.R.P] = c.R
		}
	}
	return l
}

// route is what Route should answer.
func (m *past) route(time uint64, p api.Prefix) (api.Route, api.Errno) {
	if time < m.horizon() {
		return api.Route{}, api.ErrHorizon
	}
	if r, was := m.ways(time)[p]; was {
		return r, api.OK
	}
	return api.Route{}, api.ErrNone
}

// look is what Look should answer: from the longest length down, one by one.
func (m *past) look(time uint64, addr uint32) (api.Route, api.Errno) {
	if time < m.horizon() {
		return api.Route{}, api.ErrHorizon
	}
	ways := m.ways(time)
	for n := 32; n >= 0; n-- {
		if r, was := ways[api.Prefix{Addr: uint32(uint64(addr) >> (32 - n) << (32 - n)), Len: uint8(n)}]; was {
			return r, api.OK
		}
	}
	return api.Route{}, api.ErrNone
}

// diff is what Diff should answer.
func (m *past) diff(from, to uint64) ([]api.Route, api.Errno) {
	if from < m.horizon() || to < m.horizon() {
		return nil, api.ErrHorizon
	}
	was, is := m.ways(from), m.ways(to)
	maps.DeleteFunc(was, func(p api.Prefix, r api.Route) bool {
		other, stays := is[p]
		return stays && other.Via == r.Via && other.Metric == r.Metric && other.Seq == r.Seq
	})
	return slices.SortedFunc(maps.Values(was), func(a, b api.Route) int {
		return cmp.Or(cmp.Compare(a.P.Addr, b.P.Addr), cmp.Compare(a.P.Len, b.P.Len))
	}), api.OK
}

// between are the changes of some times.
func between(l []api.Change, from, to uint64) []api.Change {
	return slices.DeleteFunc(slices.Clone(l), func(c api.Change) bool { return c.Time < from || c.Time > to })
}

// pages is what Range should answer.
func (m *past) pages(from, to, behind uint64, most int) ([]api.Change, api.Errno) {
	switch {
	case from > to, most < 0:
		return nil, api.ErrArg
	case from < m.horizon():
		return nil, api.ErrHorizon
	}
	l := between(m.all[m.n:], from, to)
	l = slices.DeleteFunc(l, func(c api.Change) bool { return c.No <= behind })
	return l[:min(most, len(l))], api.OK
}

// flaps is what Flaps should answer.
func (m *past) flaps(p api.Prefix, from, to uint64) ([]api.Change, api.Errno) {
	l, e := m.pages(from, to, 0, math.MaxInt)
	return slices.DeleteFunc(l, func(c api.Change) bool { return c.R.P != p }), e
}

// chance is a source of numbers that are always the same.
type chance uint32

func (x *chance) below(n int) int {
	*x = *x*1664525 + 1013904223
	return int(*x>>8) % n
}

// prefixOf is one of some prefixes, of many lengths, many of which lie in others.
func prefixOf(n int) api.Prefix {
	size := []uint8{0, 1, 8, 9, 16, 24, 25, 32}[n%8]
	addr := uint32(0x0a010203) + uint32(n/8)<<16
	return api.Prefix{Addr: uint32(uint64(addr) >> (32 - size) << (32 - size)), Len: size}
}

// change is some change that may stand behind others, by chance.
func (x *chance) change(m *past) api.Change {
	c := api.Change{No: 1, Time: []uint64{0, 0, 1, 2, 5}[x.below(5)]}
	if n := len(m.all); n > 0 {
		c.No += m.all[n-1].No
		c.Time += m.all[n-1].Time
	}
	p := prefixOf(x.below(20))
	if _, is := m.ways(c.Time)[p]; is && x.below(2) == 0 {
		c.Gone, c.R.P = true, p
		return c
	}
	// Few kinds of routes, so that one often becomes what it was.
	c.R = api.Route{P: p, Via: x.below(3), Metric: uint16(x.below(2)), Seq: uint16(x.below(2))}
	return c
}

// some are so many changes that may stand one behind the other.
func some(n int) []api.Change {
	x, m := chance(n), &past{}
	for range n {
		m.all = append(m.all, x.change(m))
	}
	return m.all
}

// ask asks an archive anything about a time, by chance.
func (x *chance) ask(t *testing.T, a *archive.Archive, m *past) {
	t.Helper()
	from, to := x.time(m), x.time(m)
	p := prefixOf(x.below(24))
	r, e := Route(a, from, p)
	want, wantE := m.route(from, p)
	wantRoute(t, "Route", r, e, want, wantE)
	addr := p.Addr + uint32(x.below(3)) - 1
	r, e = Look(a, from, addr)
	want, wantE = m.look(from, addr)
	wantRoute(t, "Look", r, e, want, wantE)
	d, e := Diff(a, from, to)
	wantD, wantE := m.diff(from, to)
	wantRoutes(t, "Diff", d, e, wantD, wantE)
	behind, most := uint64(x.below(len(m.all)+3)), x.below(len(m.all)+3)-1
	l, e := Range(a, from, to, behind, most)
	wantL, wantE := m.pages(from, to, behind, most)
	wantChanges(t, "Range", l, e, wantL, wantE)
	l, e = Flaps(a, p, from, to)
	wantL, wantE = m.flaps(p, from, to)
	wantChanges(t, "Flaps", l, e, wantL, wantE)
}

// time is one about which there is something to ask: mostly at or behind the horizon.
func (x *chance) time(m *past) uint64 {
	last := uint64(0)
	if n := len(m.all); n > 0 {
		last = m.all[n-1].Time
	}
	if x.below(10) == 0 {
		return []uint64{0, 1 << 63, math.MaxUint64}[x.below(3)]
	}
	time := m.horizon() + uint64(x.below(int(last-m.horizon())+4))
	return time - min(time, 2)
}

// P12.1, P12.2, P5: whatever an archive was told, let go of, or kept over a fall, it answers what was when.
func TestAnyHistories(t *testing.T) {
	configs := []archive.Config{{Most: 1, Every: 1}, {Most: 60, Every: 3}, {Most: 500, Every: 8}, {Most: math.MaxInt, Every: math.MaxInt}}
	for seed := range 30 {
		for _, c := range configs {
			x, m, s := chance(seed*1000+7), &past{}, shelf.New(plenty)
			a, e := archive.Open(s, c)
			for range 60 {
				a, e = x.act(s, c, a, m)
				if e != api.OK {
					t.Fatalf("an act of the archive: %d", e)
				}
				x.ask(t, a, m)
			}
		}
	}
}

// act does something to an archive, by chance: mostly it adds a change.
func (x *chance) act(s *shelf.Shelf, c archive.Config, a *archive.Archive, m *past) (*archive.Archive, api.Errno) {
	n, e := 0, api.OK
	switch k := x.below(20); {
	case k < 17:
		next := x.change(m)
		m.all = append(m.all, next)
		return a, a.Add(next)
	case k < 18:
		n, e = a.Compact(x.time(m))
		if e == api.ErrNone {
			e = api.OK
		}
	case k < 19:
		n, e = a.Retain(x.time(m), a.Bytes()+x.below(200)-100)
	default:
		// All is safe, so nothing is lost.
		a.Sync()
		s.Fall(0, 0)
		a, e = archive.Open(s, c)
	}
	m.n += n
	return a, e
}

// P5, P12.1: no Compact and no Retain changes what was when, at and behind the horizon, nor the changes behind it.
func TestHorizonChangesNoAnswer(t *testing.T) {
	all := some(30)
	whole := opened(t, all...)
	for i := range all {
		a := opened(t, all...)
		if i%2 == 0 {
			a.Compact(all[i].Time)
		} else {
			a.Retain(all[i].Time, plenty)
		}
		last := all[len(all)-1].Time
		for time := a.Horizon(); time <= last+1; time++ {
			for n := range 24 {
				p := prefixOf(n)
				r, e := Route(a, time, p)
				want, wantE := Route(whole, time, p)
				wantRoute(t, "Route", r, e, want, wantE)
				r, e = Look(a, time, p.Addr)
				want, wantE = Look(whole, time, p.Addr)
				wantRoute(t, "Look", r, e, want, wantE)
			}
			d, e := Diff(a, time, last)
			want, wantE := Diff(whole, time, last)
			wantRoutes(t, "Diff", d, e, want, wantE)
			l, e := Range(a, time+1, last+2, 0, 99)
			wantL, wantE := Range(whole, time+1, last+2, 0, 99)
			wantChanges(t, "Range", l, e, wantL, wantE)
		}
	}
}
