package archive

import (
	"slices"
	"testing"

	"milestone/api"
	"milestone/shelf"
)

// past is what an archive was told ahead of a fall.
type past struct {
	all  []api.Change // each that was added, from the first one on
	safe int          // how many of them are safe for sure
	n    int          // how many were in the base
	fell int          // how many would be, by the Compact or Retain that fell (as many as n: none did)
}

// step is a call of a script: an Add, a Sync, a Compact or a Retain.
type step struct {
	kind   byte
	c      api.Change
	time   uint64
	budget int
}

// do does a step, and answers what the call did.
func (x *past) do(a *Archive, m step) api.Errno {
	switch m.kind {
	case 'a':
		return x.add(a, m.c)
	case 's':
		e := a.Sync()
		if e == api.OK {
			x.safe = len(x.all)
		}
		return e
	case 'c':
		n := 0
		for n < len(x.all) && x.all[n].Time <= m.time {
			n++
		}
		x.fell = max(n, x.n)
		return x.folded(a.Compact(m.time))
	}
	x.fell = x.n + wouldGo(a, m)
	return x.folded(a.Retain(m.time, m.budget))
}

// add is one more change. What stands in volumes ahead of a new one is safe.
func (x *past) add(a *Archive, c api.Change) api.Errno {
	volumes := len(a.records.Volumes())
	e := a.Add(c)
	if e == api.OK {
		if len(a.records.Volumes()) > volumes {
			x.safe = max(x.safe, len(x.all))
		}
	}
	if e == api.OK || e == api.ErrStop {
		x.all = append(x.all, c)
	}
	return e
}

// folded is what came of a Compact or Retain.
func (x *past) folded(n int, e api.Errno) api.Errno {
	switch e {
	case api.OK:
		x.n += n
		if n > 0 {
			x.safe = len(x.all)
		}
		x.fell = x.n
	case api.ErrNone, api.ErrFull:
		x.fell = x.n
	}
	return e
}

// wouldGo is how many changes a Retain lets go: it is tried on a shelf of its own.
func wouldGo(a *Archive, m step) int {
	n := 0
	for n < len(a.changes) && a.changes[n].c.Time < m.time {
		n++
	}
	size := 0
	if n > 0 {
		all := []api.Change{a.changes[n-1].c}
		x, _ := a.At(all[0].Time)
		one := changeOf(api.Change{No: all[0].No - 1}, all[0])
		size = len(written('b', numbers(all[0].No, uint64(len(one)))+one+string(x.Encode())))
	}
	if a.Bytes()+size+32 <= m.budget {
		return n
	}
	first := a.records.Next()
	for _, v := range a.records.Volumes() {
		first = v.First
	}
	ahead := 0
	for ahead < len(a.changes) && a.changes[ahead].no < first {
		ahead++
	}
	for ahead > 0 && ahead < len(a.changes) && a.changes[ahead].c.Time == a.changes[ahead-1].c.Time {
		ahead++
	}
	return max(n, ahead)
}

// adds are steps that add changes.
func adds(l []api.Change) []step {
	var s []step
	for _, c := range l {
		s = append(s, step{kind: 'a', c: c})
	}
	return s
}

// scripts are those that are broken off anywhere.
func scripts() [][]step {
	l := some(14)
	sync := step{kind: 's'}
	compact := func(n int) step { return step{kind: 'c', time: l[n-1].Time} }
	x := append(adds(l[:4]), sync)
	x = append(x, adds(l[4:8])...)
	x = append(x, compact(3), compact(5))
	x = append(x, adds(l[8:])...)
	x = append(x, sync, compact(14))
	y := append(adds(l[:9]), step{kind: 'r', budget: -1})
	y = append(y, adds(l[9:11])...)
	y = append(y, step{kind: 'r', time: l[10].Time, budget: plenty}, sync, step{kind: 'r'}, compact(11))
	// All goes into the base, and behind one more change that volume goes, though no change does.
	z := append(adds(l[:5]), compact(5))
	z = append(z, adds(l[5:6])...)
	z = append(z, step{kind: 'r'}, sync)
	z = append(z, adds(l[6:9])...)
	z = append(z, compact(9))
	z = append(z, adds(l[9:10])...)
	return [][]step{nil, {sync}, adds(l[:6]), x, append(y, adds(l[11:])...), append(z, step{kind: 'r'})}
}

// play does a script until the shelf falls; false: it didn't.
func play(t *testing.T, s *shelf.Shelf, c Config, script []step, x *past) bool {
	t.Helper()
	a, e := Open(s, c)
	for i := 0; e == api.OK && i < len(script); i++ {
		e = x.do(a, script[i])
		if e == api.ErrNone && script[i].kind == 'c' {
			e = api.OK
		}
	}
	if e != api.OK && e != api.ErrStop {
		t.Fatalf("a script that isn't right: %d", e)
	}
	return e == api.ErrStop
}

// wantKnown asks that an archive has what P11.4 asks for; what was told of then is what it has.
func wantKnown(t *testing.T, a *Archive, x *past) {
	t.Helper()
	n := 0
	if no, _ := a.Base().Last(); no > 0 {
		n = int(no)
	}
	if n != x.n && n != x.fell {
		t.Fatalf("%d changes are in the base: before %d, or by what fell %d", n, x.n, x.fell)
	}
	known := n + len(a.Changes())
	if known < x.safe || known > len(x.all) {
		t.Fatalf("%d changes are known, of %d, of which %d are safe", known, len(x.all), x.safe)
	}
	wantTold(t, a, x.all[:known], n)
	*x = past{all: x.all[:known:known], safe: known, n: n, fell: n}
}

// falls are how many moves of names, and how many bytes of each file, stay.
var falls = []struct{ names, bytes int }{
	{0, 0}, {1, 0}, {2, 7}, {3, 0}, {100, 0}, {1, 30}, {100, 1}, {100, 12}, {0, plenty}, {100, plenty},
}

// P11.4: a fall at any act of any script, of which anything stays; and so it is when Open falls in its turn.
func TestFallAnywhere(t *testing.T) {
	for _, c := range []Config{{1, 3}, {40, 1}, {60, 3}, {plenty, 4}} {
		for _, script := range scripts() {
			fell := true
			for acts := 0; fell; acts++ {
				for _, f := range falls {
					s, x := shelf.New(plenty), &past{}
					s.Arm(acts)
					fell = play(t, s, c, script, x)
					s.Fall(f.names, f.bytes)
					fallAgain(t, s, c, x, acts)
				}
			}
		}
	}
}

// fallAgain opens an archive on a shelf that falls once more, first within Open, then behind an Add; each time what was known stays so.
func fallAgain(t *testing.T, s *shelf.Shelf, c Config, x *past, acts int) {
	t.Helper()
	for again := range 3 {
		s.Arm(again)
		if a, e := Open(s, c); e != api.OK && (e != api.ErrStop || a != nil) {
			t.Fatalf("Open on a shelf that falls: %v, %d", a, e)
		}
		f := falls[(acts+again)%len(falls)]
		s.Fall(f.names, f.bytes)
	}
	a := wantOpen(t, s, c)
	wantKnown(t, a, x)
	// What is added now is known behind the next fall.
	by := chance(acts)
	for range 3 {
		if e := x.do(a, step{kind: 'a', c: by.change(x.all)}); e != api.OK {
			t.Fatalf("Add behind falls: %d", e)
		}
	}
	if e := x.do(a, step{kind: 's'}); e != api.OK {
		t.Fatalf("Sync behind falls: %d", e)
	}
	s.Fall(0, 0)
	a = wantOpen(t, s, c)
	wantKnown(t, a, x)
	if e := x.do(a, step{kind: 'r', budget: 0, time: lastOf(x.all).Time}); e != api.OK {
		t.Fatalf("Retain behind falls: %d", e)
	}
	wantSmall(t, s, a, 0)
	s.Fall(0, 0)
	wantKnown(t, wantOpen(t, s, c), x)
}

// P11.4, P11.5: many falls, one behind the other, by chance, on a shelf whose room may run out. The horizon never goes back.
func TestManyFalls(t *testing.T) {
	for seed := range 200 {
		x := chance(seed)
		s, p := shelf.New(plenty), &past{}
		c := []Config{{1, 2}, {30, 1}, {60, 3}, {200, 5}, {plenty, 7}}[seed%5]
		horizon := uint64(0)
		for range 20 {
			s.Room([]int{plenty, 300, 800, 3000}[x.below(4)])
			s.Arm(x.below(60) - 1)
			lifeByChance(t, &x, s, c, p)
			f := falls[x.below(len(falls))]
			s.Fall(f.names, f.bytes)
			s.Room(plenty)
			a := wantOpen(t, s, c)
			wantKnown(t, a, p)
			if a.Horizon() < horizon {
				t.Fatalf("the horizon went back from %d to %d", horizon, a.Horizon())
			}
			horizon = a.Horizon()
		}
	}
}

// lifeByChance is what an archive is told from one fall to the next.
func lifeByChance(t *testing.T, x *chance, s *shelf.Shelf, c Config, p *past) {
	t.Helper()
	a, e := Open(s, c)
	for e != api.ErrStop && a != nil {
		m := step{kind: 'a', c: x.change(p.all)}
		time := lastOf(p.all).Time
		switch x.below(12) {
		case 0, 1:
			m = step{kind: 's'}
		case 2:
			m = step{kind: 'c', time: time - min(time, uint64(x.below(20)))}
		case 3:
			m = step{kind: 'r', time: time - min(time, uint64(x.below(2000))), budget: x.below(2000)}
		case 4:
			return
		}
		before, told := filesOf(s), slices.Clone(a.Changes())
		e = p.do(a, m)
		switch e {
		case api.OK:
			if m.kind == 'r' {
				wantSmall(t, s, a, m.budget)
			}
		case api.ErrFull, api.ErrClosed, api.ErrNone:
			wantFiles(t, s, before)
			if !slices.Equal(a.Changes(), told) || len(told) != len(p.all)-p.n {
				t.Fatalf("behind what didn't happen: %v, not %v", a.Changes(), told)
			}
		case api.ErrArg, api.ErrForm, api.ErrOrder, api.ErrLong:
			t.Fatalf("%v: %d", m, e)
		}
	}
}

// P11.2: a fall at the whole table behind a change isn't passed by.
func TestFallAtWhole(t *testing.T) {
	l := steady(2)
	for acts, known := range []int{1, 2} {
		s := shelf.New(plenty)
		a := wantOpen(t, s, Config{1000, 2})
		wantAdds(t, a, l[0])
		s.Arm(acts)
		wantErr(t, "Add", a.Add(l[1]), api.ErrStop)
		s.Fall(0, plenty)
		wantTold(t, wantOpen(t, s, Config{1000, 2}), l[:known], 0)
	}
}
