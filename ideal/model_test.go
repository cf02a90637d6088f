package ideal

import (
	"cmp"
	"math"
	"slices"
	"testing"

	"milestone/api"
	"milestone/archive"
	"milestone/shelf"
	"milestone/table"
)

// told is a change, and what is so of it.
type told struct {
	c         api.Change
	safe, cut bool
}

// model is a history as the document tells it: of each change it is noted by itself whether it is safe, and whether it is cut.
type model []told

func (m model) count(is func(told) bool) int {
	n := 0
	for _, x := range m {
		if is(x) {
			n++
		}
	}
	return n
}

func (m model) safe() int { return m.count(func(x told) bool { return x.safe }) }

func (m model) cut() int { return m.count(func(x told) bool { return x.cut }) }

// right: may a change be?
func right(c api.Change) bool {
	for bit := range 32 {
		if bit >= int(c.R.P.Len) && c.R.P.Addr<<bit>>31 == 1 {
			return false
		}
	}
	if c.R.P.Len > 32 {
		return false
	}
	if c.Gone {
		return c.R == api.Route{P: c.R.P}
	}
	return 0 <= c.R.Via && c.R.Via <= 15 && c.R.Metric < 65535
}

func (m *model) add(c api.Change) api.Errno {
	if !right(c) {
		return api.ErrArg
	}
	time := uint64(0)
	for _, x := range *m {
		time = x.c.Time
	}
	if c.No != uint64(len(*m))+1 || c.Time < time {
		return api.ErrOrder
	}
	*m = append(*m, told{c: c})
	return api.OK
}

// mark notes that the first so many are safe, and are cut; others are left as they are.
func (m model) mark(safe, cut int) {
	for i := range m {
		m[i].safe = m[i].safe || i < safe
		m[i].cut = m[i].cut || i < cut
	}
}

func (m model) fold(n int) api.Errno {
	if n > len(m) || n < m.cut() {
		return api.ErrArg
	}
	m.mark(len(m), n)
	return api.OK
}

// fell: no change that is safe may be missing, nor one that was cut be told again.
func (m *model) fell(left, cut int) api.Errno {
	if left < 0 || left > len(*m) || cut > left || cut < m.cut() || (*m)[left:].safe() > 0 {
		return api.ErrArg
	}
	*m = slices.Clone((*m)[:left])
	m.mark(left, cut)
	return api.OK
}

func (m model) horizon() uint64 {
	time := uint64(0)
	for _, x := range m {
		if x.cut {
			time = x.c.Time
		}
	}
	return time
}

func (m model) changes() []api.Change {
	var l []api.Change
	for _, x := range m {
		if !x.cut {
			l = append(l, x.c)
		}
	}
	return l
}

// rows are what changes come to, prefix by prefix.
func rows(l []api.Change) []api.Row {
	var out []api.Row
	for i, c := range l {
		first := slices.IndexFunc(l, func(d api.Change) bool { return d.R.P == c.R.P && !d.Gone }) == i
		if first {
			out = append(out, row(l, c.R.P))
		}
	}
	slices.SortFunc(out, func(a, b api.Row) int {
		return cmp.Compare(uint64(a.P.Addr)<<8+uint64(a.P.Len), uint64(b.P.Addr)<<8+uint64(b.P.Len))
	})
	return out
}

// row is what changes come to of a prefix that had a route.
func row(l []api.Change, p api.Prefix) api.Row {
	var out api.Row
	began := false
	for _, c := range l {
		if c.R.P != p {
			continue
		}
		ahead := int16(c.R.Seq - out.M.Seq)
		if !c.Gone && (!began || ahead > 0 || ahead == 0 && c.R.Metric < out.M.Metric) {
			out.M, began = api.Mark{Seq: c.R.Seq, Metric: c.R.Metric}, true
		}
		out.Has, out.R = !c.Gone, c.R
	}
	out.P = p
	return out
}

func (m model) first(n int) []api.Change {
	var l []api.Change
	for i, x := range m {
		if i < n {
			l = append(l, x.c)
		}
	}
	return l
}

func (m model) at(time uint64) ([]api.Route, api.Errno) {
	if time < m.horizon() {
		return nil, api.ErrHorizon
	}
	n := m.count(func(x told) bool { return x.c.Time <= time })
	var l []api.Route
	for _, r := range rows(m.first(n)) {
		if r.Has {
			l = append(l, r.R)
		}
	}
	return l, api.OK
}

// chance tells numbers that look like any.
type chance uint32

func (x *chance) below(n int) int {
	*x = *x*1664525 + 1013904223
	return int(*x>>8) % n
}

// serials are such as lie within less than half of all, and go round.
func (x *chance) serial() uint16 {
	return uint16(65500 + x.below(300))
}

var somePrefixes = []api.Prefix{all, ten, {Addr: 0x0a000000, Len: 9}, tenOne, eleven, {Addr: 0x80000000, Len: 1}, high}

// change is one that mostly may be added behind n at a time.
func (x *chance) change(n int, time uint64) api.Change {
	c := api.Change{No: uint64(n) + 1, Time: time + uint64(x.below(3))}
	c.R.P = somePrefixes[x.below(len(somePrefixes))]
	if x.below(3) == 0 {
		c.Gone = true
	} else {
		c.R.Via, c.R.Metric, c.R.Seq = x.below(16), uint16(x.below(40)), x.serial()
	}
	switch x.below(24) {
	case 0:
		c.No += uint64(x.below(5)) - 2
	case 1:
		c.Time -= min(c.Time, 1+uint64(x.below(2)))
	case 2:
		c.R.Via = 16 - 17*x.below(2)
	case 3:
		c.R.Metric = api.Endless
	case 4:
		c.R.P.Addr |= 1 << x.below(32)
	case 5:
		c.R.P.Len += uint8(x.below(40))
	}
	return c
}

// seen is how often things came of what was done, by kinds.
type seen struct{ added, wrong, unordered, synced, folded, noFold, fell, lost, noFall, ahead, cutAndMore int }

// walk is an Ideal and its model, to which the same is done.
type walk struct {
	t    *testing.T
	x    *Ideal
	m    model
	time uint64
	seen *seen
}

func (w *walk) add(c api.Change) {
	got, want := w.x.Add(c), w.m.add(c)
	if got != want {
		w.t.Fatalf("Add(%v): %d, not %d", c, got, want)
	}
	switch want {
	case api.OK:
		w.time = c.Time
		w.seen.added++
	case api.ErrArg:
		w.seen.wrong++
	case api.ErrOrder:
		w.seen.unordered++
	}
}

func (w *walk) fold(n int) {
	got, want := w.x.Fold(n), w.m.fold(n)
	if got != want {
		w.t.Fatalf("Fold(%d): %d, not %d", n, got, want)
	}
	if want == api.OK {
		w.seen.folded++
	} else {
		w.seen.noFold++
	}
}

func (w *walk) fell(left, cut int) {
	n := len(w.m)
	got, want := w.x.Fell(left, cut), w.m.fell(left, cut)
	if got != want {
		w.t.Fatalf("Fell(%d, %d): %d, not %d", left, cut, got, want)
	}
	switch {
	case want != api.OK:
		w.seen.noFall++
		return
	case left < n:
		w.seen.lost++
	}
	w.seen.fell++
	w.time = 0
	if left > 0 {
		w.time = w.m[left-1].c.Time
	}
}

// step does one of many things.
func (w *walk) step(x *chance) {
	n, safe, cut := len(w.m), w.m.safe(), w.m.cut()
	switch k := x.below(40); {
	case k < 34:
		w.add(x.change(n, w.time))
	case k < 36:
		w.x.Sync()
		w.m.mark(n, 0)
		w.seen.synced++
	case k < 37:
		w.fold(cut - 1 + x.below(6))
	case k < 38:
		w.fold(x.below(n + 3))
	default:
		w.fell(safe-1+x.below(n-safe+3), cut-1+x.below(4))
	}
}

// look asks all that is told.
func (w *walk) look(x *chance) {
	w.t.Helper()
	wantCounts(w.t, w.x, len(w.m), w.m.safe(), w.m.cut())
	wantHorizon(w.t, w.x, w.m.horizon())
	wantChanges(w.t, w.x, w.m.changes()...)
	for range 3 {
		n := x.below(len(w.m)+4) - 2
		wantRows(w.t, w.x, n, rows(w.m.first(n))...)
		time := uint64(x.below(int(w.time) + 3))
		want, e := w.m.at(time)
		if got, f := w.x.At(time); f != e || !slices.Equal(got, want) {
			w.t.Fatalf("At(%d): %v, %d; not %v, %d", time, got, f, want, e)
		}
		if e != api.OK {
			w.seen.ahead++
		}
	}
	if c := w.m.cut(); c > 0 && c < len(w.m) {
		w.seen.cutAndMore++
	}
}

// P20.1, P20.2, P2: an Ideal tells what the document's words come to, whatever was done to it.
func TestAsAModel(t *testing.T) {
	x := chance(20)
	var seen seen
	for range 200 {
		w := &walk{t: t, x: New(), seen: &seen}
		for range 200 {
			w.step(&x)
			if x.below(4) == 0 {
				w.look(&x)
			}
		}
	}
	for _, n := range []int{seen.added, seen.wrong, seen.unordered, seen.synced, seen.folded, seen.noFold, seen.fell, seen.lost, seen.noFall, seen.ahead, seen.cutAndMore} {
		if n < 100 {
			t.Fatalf("these came: %+v", seen)
		}
	}
}

// P20.2: Rows are layer 8's, of each beginning of a history that a table takes.
func TestAsATable(t *testing.T) {
	x := chance(8)
	for range 50 {
		history, tab, time := New(), table.New(), uint64(0)
		want := [][]api.Row{nil}
		for range 200 {
			c := x.change(history.Len(), time)
			if tab.Apply(c) != api.OK {
				continue
			}
			wantErrno(t, "Add", history.Add(c), api.OK)
			want, time = append(want, tab.Rows()), c.Time
		}
		for n, rows := range want {
			wantRows(t, history, n, rows...)
		}
		wantAt(t, history, time, tab.Routes()...)
	}
}

// kept is an archive on a shelf, and the Ideal that goes along.
type kept struct {
	t *testing.T
	s *shelf.Shelf
	a *archive.Archive
	x *Ideal
}

var config = archive.Config{Most: 300, Every: 7}

// follow does something to the archive, and what comes of that to the Ideal; whether the shelf stands.
func (k *kept) follow(x *chance) bool {
	last, time := k.a.Now().Last()
	var e api.Errno
	var n int
	switch x.below(12) {
	case 0, 1:
		if e = k.a.Sync(); e == api.OK {
			k.x.Sync()
		}
	case 2:
		if n, e = k.a.Compact(time - min(time, uint64(x.below(20)))); e == api.OK {
			wantErrno(k.t, "Fold", k.x.Fold(k.x.Cut()+n), api.OK)
		}
	default:
		c := x.change(int(last), time)
		// A change may be there, and the whole table behind it not.
		e = k.a.Add(c)
		if l := k.a.Changes(); e == api.OK || len(l) > 0 && l[len(l)-1].No > last {
			wantErrno(k.t, "Add", k.x.Add(c), api.OK)
		}
	}
	return k.s.On()
}

// stand opens the archive behind a fall, which the Ideal has had, too; how many changes that lost.
func (k *kept) stand(names, bytes int) int {
	k.t.Helper()
	k.s.Fall(names, bytes)
	var e api.Errno
	k.a, e = archive.Open(k.s, config)
	wantErrno(k.t, "Open", e, api.OK)
	left, _ := k.a.Now().Last()
	cut, _ := k.a.Base().Last()
	ahead := k.x.Len()
	wantErrno(k.t, "Fell", k.x.Fell(int(left), int(cut)), api.OK)
	return ahead - k.x.Len()
}

// same asks that both tell the same.
func (k *kept) same() {
	k.t.Helper()
	wantChanges(k.t, k.x, k.a.Changes()...)
	wantHorizon(k.t, k.x, k.a.Horizon())
	wantRows(k.t, k.x, k.x.Len(), k.a.Now().Rows()...)
	wantRows(k.t, k.x, k.x.Cut(), k.a.Base().Rows()...)
	_, end := k.a.Now().Last()
	for time := range end + 2 {
		tab, e := k.a.At(time)
		if got, f := k.x.At(time); f != e || !slices.Equal(got, tab.Routes()) {
			k.t.Fatalf("At(%d): %v, %d; not %v, %d", time, got, f, tab.Routes(), e)
		}
	}
}

// P20.1, P20.2: an archive is as its Ideal, behind any fall at any act.
func TestAsAnArchive(t *testing.T) {
	x := chance(11)
	falls, lost := 0, 0
	for range 40 {
		k := &kept{t: t, s: shelf.New(1 << 20), x: New()}
		k.stand(0, 0)
		for range 6 {
			k.s.Arm(x.below(120))
			for k.follow(&x) {
				if x.below(8) == 0 {
					k.same()
				}
			}
			lost += k.stand(x.below(4), x.below(40))
			falls++
			k.same()
		}
	}
	if falls != 240 || lost < 100 {
		t.Errorf("%d falls, by which %d changes were lost", falls, lost)
	}
}

// P1: every call ends and none panics, at any numbers.
func TestEveryCallEnds(t *testing.T) {
	numbers := []int{0, 1, 2, 3, -1, 16, 1 << 32, math.MinInt, math.MaxInt}
	for _, x := range []*Ideal{nil, New(), at(t, 1, 2, 3), {}} {
		for _, n := range numbers {
			for _, m := range numbers {
				x.Add(api.Change{No: uint64(n), Time: uint64(m), Gone: n > m, R: api.Route{P: api.Prefix{Addr: uint32(n), Len: uint8(m)}, Via: n, Metric: uint16(m), Seq: uint16(n)}})
				x.Fell(n, m)
				x.Fold(m)
				x.Sync()
				x.Rows(n)
				x.At(uint64(m))
				x.Changes()
				x.Horizon()
			}
		}
	}
}
