package table

import (
	"maps"
	"math/rand"
	"slices"
	"testing"

	"milestone/api"
)

// model is what P8.1 says, told another way: all changes that went in, and nothing else.
type model struct {
	changes []api.Change
}

func (m *model) last() api.Change {
	if len(m.changes) == 0 {
		return api.Change{}
	}
	return m.changes[len(m.changes)-1]
}

// rows go through all changes anew.
func (m *model) rows() map[api.Prefix]api.Row {
	rows := map[api.Prefix]api.Row{}
	for _, c := range m.changes {
		row, seen := rows[c.R.P]
		if c.Gone {
			rows[c.R.P] = api.Row{P: c.R.P, R: api.Route{P: c.R.P}, M: row.M}
			continue
		}
		ahead := int16(c.R.Seq - row.M.Seq)
		if !seen || ahead > 0 || ahead == 0 && c.R.Metric < row.M.Metric {
			row.M = api.Mark{Seq: c.R.Seq, Metric: c.R.Metric}
		}
		rows[c.R.P] = api.Row{P: c.R.P, Has: true, R: c.R, M: row.M}
	}
	return rows
}

func byPrefix(a, b api.Prefix) int {
	return int(int64(a.Addr)<<6|int64(a.Len)) - int(int64(b.Addr)<<6|int64(b.Len))
}

// apply: the error, by the words of P8.1 and P7.1.
func (m *model) apply(c api.Change) api.Errno {
	row := m.rows()[c.R.P]
	_, there := m.rows()[c.R.P]
	last := m.last()
	bits := uint64(c.R.P.Addr) << 32 << min(c.R.P.Len, 32) & (1<<64 - 1)
	switch {
	case c.R.P.Len > 32 || bits != 0:
		return api.ErrArg
	case c.Gone && c.R != (api.Route{P: c.R.P}):
		return api.ErrArg
	case c.R.Via < 0 || c.R.Via > 15 || c.R.Metric == 65535:
		return api.ErrArg
	case c.No != last.No+1 || c.Time < last.Time:
		return api.ErrOrder
	case c.Gone && !row.Has:
		return api.ErrNone
	case !there && len(m.rows()) == 256:
		return api.ErrFull
	}
	m.changes = append(m.changes, c)
	return api.OK
}

// hold holds a table against the model.
func (m *model) hold(test *testing.T, t *Table) {
	test.Helper()
	rows := m.rows()
	rising := slices.SortedFunc(maps.Keys(rows), byPrefix)
	var wantRows []api.Row
	var wantRoutes []api.Route
	for _, p := range rising {
		row := rows[p]
		wantRows = append(wantRows, row)
		if row.Has {
			wantRoutes = append(wantRoutes, row.R)
		}
		wantRow(test, t, row)
	}
	if no, time := t.Last(); no != m.last().No || time != m.last().Time {
		test.Fatalf("Last: %d, %d", no, time)
	}
	if !slices.Equal(t.Rows(), wantRows) || !slices.Equal(t.Routes(), wantRoutes) {
		test.Fatalf("%v, %v, not %v, %v", t.Rows(), t.Routes(), wantRows, wantRoutes)
	}
	wantCoins(test, t)
}

// maker makes routes of few prefixes and serials, so that they meet.
type maker struct {
	*rand.Rand
	prefixes int
	seq      uint16
}

func (x *maker) prefix() api.Prefix {
	n := x.Intn(x.prefixes)
	return of(uint32(n)*0x9e3779b1, 1+n%32)
}

func (x *maker) route() api.Route {
	x.seq += uint16(x.Intn(40))
	return api.Route{P: x.prefix(), Via: x.Intn(17) - x.Intn(30)/29, Metric: uint16(x.Intn(9)), Seq: x.seq - uint16(x.Intn(300))}
}

func (x *maker) change(last api.Change) api.Change {
	c := api.Change{No: last.No + 1, Time: last.Time + uint64(x.Intn(3)), R: x.route()}
	switch x.Intn(20) {
	case 0:
		c.No += uint64(x.Intn(3)) - 1
	case 1:
		c.Time -= min(c.Time, uint64(x.Intn(3)))
	case 2:
		c.R.P.Addr ^= 1 << x.Intn(32)
	case 3:
		c.R.P.Len += uint8(x.Intn(40))
	case 4:
		c.R.Metric = api.Endless - uint16(x.Intn(2))
	}
	if x.Intn(3) == 0 {
		c.Gone = true
		if x.Intn(9) > 0 {
			c.R = api.Route{P: c.R.P}
		}
	}
	return c
}

// routes are some that rise, each of another prefix, that may be.
func (x *maker) routes(t *Table) []api.Route {
	l := map[api.Prefix]api.Route{}
	for _, r := range t.Routes() {
		if x.Intn(3) > 0 {
			l[r.P] = r
		}
	}
	for range x.Intn(x.prefixes) {
		r := x.route()
		r.Via = min(max(r.Via, 0), 15)
		if row, _ := t.Row(r.P); row.P == r.P || len(t.Rows())+len(l) < api.MaxRoutes {
			l[r.P] = r
		}
	}
	var rising []api.Route
	for _, p := range slices.SortedFunc(maps.Keys(l), byPrefix) {
		rising = append(rising, l[p])
	}
	return rising
}

// P8.1, P8.2: whatever a table is told, it is as the model, and comes back from its bytes.
func TestModel(test *testing.T) {
	seen := map[api.Errno]int{}
	for seed := range 24 {
		x := &maker{Rand: rand.New(rand.NewSource(int64(seed))), prefixes: []int{3, 12, 40, 600}[seed%4], seq: uint16(seed * 9000)}
		t, m := New(), &model{}
		for i := range 700 {
			c := x.change(m.last())
			want := m.apply(c)
			seen[want]++
			if e := t.Apply(c); e != want {
				test.Fatalf("seed %d, Apply(%v) = %d, not %d", seed, c, e, want)
			}
			if want != api.OK || i%20 == 0 {
				m.hold(test, t)
			}
		}
		m.hold(test, t)
	}
	for _, e := range []api.Errno{api.OK, api.ErrArg, api.ErrOrder, api.ErrNone, api.ErrFull} {
		if seen[e] < 20 {
			test.Errorf("error %d was seen %d times", e, seen[e])
		}
	}
}

// P8.1: Diff's changes are all that it needs, in their order; and each goes in, and leads to the list.
func TestDiffLeadsThere(test *testing.T) {
	for seed := range 200 {
		x := &maker{Rand: rand.New(rand.NewSource(int64(seed))), prefixes: 2 + seed%60, seq: uint16(seed * 900)}
		t := New()
		for range 8 {
			l := x.routes(t)
			old := t.Routes()
			no, last := t.Last()
			time := last + uint64(x.Intn(4)) - min(last, uint64(x.Intn(3)))
			d := t.Diff(l, time)
			needed := 0
			for _, r := range old {
				if !slices.ContainsFunc(l, func(q api.Route) bool { return q.P == r.P }) {
					needed++
				}
			}
			for _, r := range l {
				if !slices.Contains(old, r) {
					needed++
				}
			}
			if len(d) != needed {
				test.Fatalf("seed %d: %d changes, not %d", seed, len(d), needed)
			}
			for i, c := range d {
				if c.No != no+uint64(i)+1 || c.Time != max(last, time) {
					test.Fatalf("seed %d: change %d is %v", seed, i, c)
				}
				if i > 0 && (!d[i-1].Gone && c.Gone || d[i-1].Gone == c.Gone && byPrefix(d[i-1].R.P, c.R.P) >= 0) {
					test.Fatalf("seed %d: %v ahead of %v", seed, d[i-1], c)
				}
				if e := t.Apply(c); e != api.OK {
					test.Fatalf("seed %d: Apply(%v) = %d", seed, c, e)
				}
			}
			if !slices.Equal(t.Routes(), l) {
				test.Fatalf("seed %d: %v, not %v", seed, t.Routes(), l)
			}
			if len(t.Diff(l, time)) != 0 {
				test.Fatalf("seed %d: Diff of its own: %v", seed, t.Diff(l, time))
			}
		}
	}
}
