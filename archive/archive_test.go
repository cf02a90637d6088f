package archive

import (
	"math"
	"slices"
	"strconv"
	"testing"

	"milestone/api"
	"milestone/shelf"
)

// ten is 10.0.0.0/8.
var ten = api.Prefix{Addr: 10 << 24, Len: 8}

// by is a change by which a prefix has a route by a neighbor.
func by(no, time uint64, p api.Prefix, via int) api.Change {
	return api.Change{No: no, Time: time, R: api.Route{P: p, Via: via, Metric: uint16(100 - via), Seq: 1}}
}

// gone is a change by which a prefix has no route any more.
func gone(no, time uint64, p api.Prefix) api.Change {
	return api.Change{No: no, Time: time, Gone: true, R: api.Route{P: p}}
}

// wantAdds adds changes to an archive, each of which it takes.
func wantAdds(t *testing.T, a *Archive, l ...api.Change) {
	t.Helper()
	for _, c := range l {
		if e := a.Add(c); e != api.OK {
			t.Fatalf("Add(%v): %d", c, e)
		}
	}
}

// steady are so many changes of few prefixes, one at each time from 1 on.
func steady(n int) []api.Change {
	var l []api.Change
	for i := range n {
		l = append(l, by(uint64(i+1), uint64(i+1), prefixOf(i%5), i%16))
	}
	return l
}

// P11.3: the example.
func TestExample(t *testing.T) {
	a := wantOpen(t, shelf.New(1000), Config{100, 10})
	l := []api.Change{by(1, 5, ten, 1), by(2, 7, ten, 2)}
	wantAdds(t, a, l...)
	n, e := a.Compact(5)
	wantCount(t, "Compact", n, e, 1, api.OK)
	if x, e := a.At(4); x != nil || e != api.ErrHorizon {
		t.Errorf("At(4): %v, %d", x, e)
	}
	x, e := a.At(6)
	wantErr(t, "At", e, api.OK)
	wantTable(t, "At(6)", x, l[:1])
}

// P11.1: the files, written out.
func TestFilesKnown(t *testing.T) {
	s := shelf.New(plenty)
	a := wantOpen(t, s, Config{1000, 2})
	wantFiles(t, s, map[string]string{"index": written('L', "\x01\x00\x00")})
	one := "\x00\x80\x80\x0a\x00\x00\x01"
	first := api.Change{No: 1, R: api.Route{P: ten, Seq: 1}}
	wantAdds(t, a, first)
	v1 := written('T', "\x01\x01") + written('D', one)
	wantFiles(t, s, map[string]string{"index": written('L', "\x01\x00\x00"), "v.1": v1})
	// It is gone; and behind two changes the whole table stands.
	wantAdds(t, a, gone(2, 5, ten))
	v1 += written('D', "\x05\x80\x83") + written('S', "\x02\x05\x01\xea\x00\x00\x00\x08\x01\x00\x00")
	wantFiles(t, s, map[string]string{"index": written('L', "\x01\x00\x00"), "v.1": v1})
	wantAdds(t, a, api.Change{No: 3, Time: 7, R: api.Route{P: ten, Via: 2, Metric: 3, Seq: 2}})
	v1 += written('D', "\x02\x80\x82\x04\x06\x02")
	wantFiles(t, s, map[string]string{"index": written('L', "\x01\x00\x00"), "v.1": v1})
	n, e := a.Compact(0)
	wantCount(t, "Compact", n, e, 1, api.OK)
	b1 := written('b', "\x01\x07"+one+"\x01\x00\x01\xea\x00\x00\x00\x08\x01\x00\x01\x00\x01")
	wantFiles(t, s, map[string]string{"index": written('L', "\x01\x01\x01"), "b.1": b1, "v.1": v1})
	n, e = a.Compact(6)
	wantCount(t, "Compact", n, e, 1, api.OK)
	b2 := written('b', "\x02\x04\x05\x80\x81\x0a"+"\x02\x05\x01\xea\x00\x00\x00\x08\x01\x00\x00")
	// The whole table behind what went went too.
	wantFiles(t, s, map[string]string{"index": written('L', "\x01\x02\x03"), "b.2": b2, "v.1": v1})
	// What stands behind that base follows the change that is in it.
	b := wantOpen(t, s, Config{1000, 2})
	wantTold(t, b, []api.Change{first, gone(2, 5, ten), {No: 3, Time: 7, R: api.Route{P: ten, Via: 2, Metric: 3, Seq: 2}}}, 2)
}

// P11.2: a new archive has nothing, and its horizon is 0.
func TestEmpty(t *testing.T) {
	for _, c := range configs {
		s := shelf.New(plenty)
		a, m := wantOpen(t, s, c), newModel(c)
		wantLike(t, s, a, m)
		wantErr(t, "Sync", a.Sync(), api.OK)
		for _, time := range []uint64{0, 1, math.MaxUint64} {
			wantCompacted(t, a, m, time)
			for _, budget := range []int{math.MinInt, -1, 0, 100, math.MaxInt} {
				wantRetained(t, s, a, m, time, budget)
			}
		}
		wantLike(t, s, a, m)
		wantLike(t, s, wantOpen(t, s, c), m)
	}
}

// P11.2: what isn't a next change of the table isn't taken, and nothing has changed.
func TestAddRefused(t *testing.T) {
	for _, n := range []int{0, 1, 7, 30} {
		s, a, m := filled(t, Config{90, 4}, n)
		last := lastOf(m.all)
		next := api.Change{No: last.No + 1, Time: last.Time, R: api.Route{P: ten, Seq: 1}}
		change := func(f func(c *api.Change)) api.Change {
			c := next
			f(&c)
			return c
		}
		never := api.Prefix{Addr: 0xcc << 24, Len: 30}
		wrong := []struct {
			c api.Change
			e api.Errno
		}{
			{change(func(c *api.Change) { c.R.P.Addr++ }), api.ErrArg},
			{change(func(c *api.Change) { c.R.P.Len = 33 }), api.ErrArg},
			{change(func(c *api.Change) { c.R.Via = api.MaxNodes }), api.ErrArg},
			{change(func(c *api.Change) { c.R.Via = -1 }), api.ErrArg},
			{change(func(c *api.Change) { c.R.Metric = api.Endless }), api.ErrArg},
			{change(func(c *api.Change) { c.Gone = true }), api.ErrArg},
			{change(func(c *api.Change) { c.No++ }), api.ErrOrder},
			{change(func(c *api.Change) { c.No-- }), api.ErrOrder},
			{change(func(c *api.Change) { c.No = math.MaxUint64 }), api.ErrOrder},
			{gone(last.No+1, last.Time, never), api.ErrNone},
			{gone(last.No+2, last.Time, never), api.ErrOrder},
			{api.Change{}, api.ErrOrder},
		}
		if last.Time > 0 {
			wrong = append(wrong, struct {
				c api.Change
				e api.Errno
			}{change(func(c *api.Change) { c.Time-- }), api.ErrOrder})
		}
		for _, x := range wrong {
			wantErr(t, "Add", a.Add(x.c), x.e)
			wantLike(t, s, a, m)
		}
		wantAdded(t, a, m, next)
		wantLike(t, s, a, m)
	}
}

// P11.2: as many rows as a table may have, and one more.
func TestMaxRoutes(t *testing.T) {
	s := shelf.New(plenty)
	c := Config{4000, 100}
	a, m := wantOpen(t, s, c), newModel(c)
	for i := range uint64(api.MaxRoutes) {
		wantAdded(t, a, m, by(i+1, i, api.Prefix{Addr: uint32(i) << 16, Len: 16}, int(i%16)))
	}
	more := by(api.MaxRoutes+1, 999, api.Prefix{Addr: 77 << 24, Len: 8}, 1)
	wantErr(t, "Add", a.Add(more), api.ErrFull)
	if a.Full() {
		t.Error("the table is full, not the archive")
	}
	wantAdded(t, a, m, gone(api.MaxRoutes+1, 999, api.Prefix{Addr: 3 << 16, Len: 16}))
	more.No++
	wantErr(t, "Add", a.Add(more), api.ErrFull)
	wantLike(t, s, a, m)
	wantCompacted(t, a, m, 1000)
	wantLike(t, s, a, m)
	a = wantOpen(t, s, c)
	wantErr(t, "Add", a.Add(more), api.ErrFull)
	wantLike(t, s, a, m)
}

// P11.2: the greatest times and numbers there are.
func TestGreatTimes(t *testing.T) {
	s := shelf.New(plenty)
	c := Config{50, 2}
	a, m := wantOpen(t, s, c), newModel(c)
	for i, time := range []uint64{0, 1 << 40, 1<<63 - 1, 1 << 63, math.MaxUint64, math.MaxUint64} {
		wantAdded(t, a, m, by(uint64(i+1), time, ten, i))
		wantLike(t, s, a, m)
	}
	wantErr(t, "Add", a.Add(by(7, 5, ten, 1)), api.ErrOrder)
	wantCompacted(t, a, m, 1<<63)
	wantLike(t, s, a, m)
	wantRetained(t, s, a, m, math.MaxUint64, math.MaxInt)
	wantLike(t, s, a, m)
	wantCompacted(t, a, m, math.MaxUint64)
	wantLike(t, s, wantOpen(t, s, c), m)
}

// P11.2: behind how many changes a whole table is written: since the base, or the last one.
func TestEvery(t *testing.T) {
	for _, x := range []struct {
		every   int
		compact uint64 // up to which change the base goes, behind ten (0: there is none)
		want    []int  // Spots behind each of the next seven changes
	}{
		{1, 0, []int{12, 13, 14, 15, 16, 17, 18}},
		{3, 0, []int{4, 5, 5, 5, 6, 6, 6}},
		{3, 2, []int{4, 5, 5, 5, 6, 6, 6}},
		{3, 3, []int{3, 4, 4, 4, 5, 5, 5}},
		{3, 4, []int{3, 4, 4, 4, 5, 5, 5}},
		{3, 9, []int{1, 2, 2, 2, 3, 3, 3}},
		{3, 10, []int{1, 1, 2, 2, 2, 3, 3}},
		{10, 10, []int{1, 1, 1, 1, 1, 1, 1}},
		{11, 0, []int{2, 2, 2, 2, 2, 2, 2}},
		{11, 5, []int{1, 1, 1, 1, 1, 2, 2}},
	} {
		for _, reopen := range []bool{false, true} {
			s := shelf.New(plenty)
			c := Config{100, x.every}
			a := wantOpen(t, s, c)
			l := steady(17)
			wantAdds(t, a, l[:10]...)
			if x.compact > 0 {
				n, e := a.Compact(x.compact)
				wantCount(t, "Compact", n, e, int(x.compact), api.OK)
			}
			if reopen {
				a = wantOpen(t, s, c)
			}
			for i, want := range x.want {
				if wantAdds(t, a, l[10+i]); a.Spots() != want {
					t.Errorf("every %d, base %d: %d spots behind %d, not %d", x.every, x.compact, a.Spots(), 11+i, want)
				}
			}
			wantTold(t, a, l, int(x.compact))
		}
	}
}

// P11.1: behind how many changes a whole table is written may be another number each time it is opened.
func TestOtherEvery(t *testing.T) {
	s := shelf.New(plenty)
	l := steady(30)
	for i, x := range []struct{ every, spots int }{{4, 2}, {100, 2}, {2, 5}, {7, 5}, {1, 10}, {math.MaxInt, 10}} {
		a := wantOpen(t, s, Config{80, x.every})
		if wantAdds(t, a, l[5*i:5*i+5]...); a.Spots() != x.spots {
			t.Errorf("every %d: %d spots, not %d", x.every, a.Spots(), x.spots)
		}
		wantTold(t, a, l[:5*i+5], 0)
		wantErr(t, "Sync", a.Sync(), api.OK)
		s.Fall(0, 0)
	}
}

// P11.2: times that are asked about, where some changes have the same one.
func TestAt(t *testing.T) {
	a := wantOpen(t, shelf.New(plenty), Config{1000, 2})
	l := []api.Change{by(1, 5, ten, 1), by(2, 5, ten, 2), by(3, 5, ten, 3), by(4, 8, ten, 4), gone(5, 8, ten), by(6, 20, ten, 6)}
	wantAdds(t, a, l...)
	for _, x := range []struct {
		time uint64
		n    int
	}{{0, 0}, {4, 0}, {5, 3}, {6, 3}, {7, 3}, {8, 5}, {19, 5}, {20, 6}, {math.MaxUint64, 6}} {
		got, e := a.At(x.time)
		wantErr(t, "At", e, api.OK)
		wantTable(t, "At", got, l[:x.n])
	}
}

// P11.3: all changes of a time go, or none.
func TestCompactTimes(t *testing.T) {
	l := []api.Change{by(1, 5, ten, 1), by(2, 5, ten, 2), by(3, 8, ten, 3), by(4, 8, ten, 4), by(5, 8, ten, 5), by(6, 9, ten, 6)}
	for time, want := range []int{0, 0, 0, 0, 0, 2, 2, 2, 5, 6, 6} {
		for _, c := range configs {
			s := shelf.New(plenty)
			a := wantOpen(t, s, c)
			wantAdds(t, a, l...)
			before := filesOf(s)
			n, e := a.Compact(uint64(time))
			if want == 0 {
				wantCount(t, "Compact", n, e, 0, api.ErrNone)
				wantFiles(t, s, before)
			} else {
				wantCount(t, "Compact", n, e, want, api.OK)
			}
			wantTold(t, a, l, want)
			n, e = a.Compact(uint64(time))
			wantCount(t, "Compact again", n, e, 0, api.ErrNone)
			wantTold(t, a, l, want)
			wantTold(t, wantOpen(t, s, c), l, want)
		}
	}
}

// P11.3: a change of the horizon's time, behind a Compact of that.
func TestCompactSameTime(t *testing.T) {
	s := shelf.New(plenty)
	a := wantOpen(t, s, Config{1000, 3})
	l := []api.Change{by(1, 5, ten, 1), by(2, 5, ten, 2), by(3, 6, ten, 3)}
	wantAdds(t, a, l[0])
	n, e := a.Compact(5)
	wantCount(t, "Compact", n, e, 1, api.OK)
	wantAdds(t, a, l[1:]...)
	wantTold(t, a, l, 1)
	n, e = a.Compact(4)
	wantCount(t, "Compact", n, e, 0, api.ErrNone)
	n, e = a.Retain(5, plenty)
	wantCount(t, "Retain", n, e, 0, api.OK)
	n, e = a.Retain(6, plenty)
	wantCount(t, "Retain", n, e, 1, api.OK)
	wantTold(t, a, l, 2)
	wantTold(t, wantOpen(t, s, Config{1000, 3}), l, 2)
}

// P11.3: which changes are too old, if the budget lets all others be.
func TestRetainOldest(t *testing.T) {
	l := []api.Change{by(1, 0, ten, 1), by(2, 5, ten, 2), by(3, 8, ten, 3), by(4, 8, ten, 4), by(5, 9, ten, 5)}
	for _, x := range []struct {
		oldest uint64
		want   int
	}{{0, 0}, {1, 1}, {5, 1}, {6, 2}, {8, 2}, {9, 4}, {10, 5}, {math.MaxUint64, 5}} {
		for _, c := range configs {
			s := shelf.New(plenty)
			a := wantOpen(t, s, c)
			wantAdds(t, a, l...)
			for _, want := range []int{x.want, 0} {
				n, e := a.Retain(x.oldest, plenty)
				wantCount(t, "Retain", n, e, want, api.OK)
				wantTold(t, a, l, x.want)
			}
			wantTold(t, wantOpen(t, s, c), l, x.want)
		}
	}
}

// P11.3: from which budget on more goes than what is too old: all ahead of the last volume.
func TestRetainBudget(t *testing.T) {
	c := Config{120, 6}
	for n := range 30 {
		for _, oldest := range []uint64{0, 3, uint64(n), uint64(n + 1)} {
			s := shelf.New(plenty)
			a, m := wantOpen(t, s, c), newModel(c)
			for _, x := range steady(n) {
				wantAdded(t, a, m, x)
			}
			old := min(max(int(oldest)-1, 0), n)
			more := max(old, m.aheadOfLast())
			least := a.Bytes() + 32
			if old > 0 {
				least += len(written('b', baseOf(m.all[:old])))
			}
			for _, budget := range []int{math.MinInt, 0, least - 1, least, math.MaxInt} {
				want := old
				if budget < least {
					want = more
				}
				b := wantOpen(t, shelfOf(filesOf(s)), c)
				got, e := b.Retain(oldest, budget)
				wantCount(t, "Retain", got, e, want, api.OK)
				wantTold(t, b, m.all, want)
			}
		}
	}
}

// shelfOf is a shelf on which these files are, and all of that is safe.
func shelfOf(files map[string]string) *shelf.Shelf {
	s := shelf.New(plenty)
	for name, p := range files {
		s.Create(name)
		s.Append(name, []byte(p))
		s.Sync(name)
	}
	s.Names()
	return s
}

// P11.3: those of the same time as the last that goes go too, out of the last volume.
func TestRetainTimes(t *testing.T) {
	for n := range 14 {
		for same := range n + 1 {
			// The last changes, so many, are of one time.
			s := shelf.New(plenty)
			c := Config{60, 100}
			a, m := wantOpen(t, s, c), newModel(c)
			for _, x := range steady(n) {
				x.Time = min(x.Time, uint64(n-same+1))
				wantAdded(t, a, m, x)
			}
			ahead := m.aheadOfLast()
			want := ahead
			if ahead > n-same {
				want = n
			}
			got, e := a.Retain(0, 0)
			wantCount(t, "Retain", got, e, want, api.OK)
			wantTold(t, a, m.all, want)
		}
	}
}

// P11.6: an archive that grows and is kept within a budget has no more than that, or than the last volume, the base and the index.
func TestBudgetKept(t *testing.T) {
	for _, c := range []Config{{1, 1}, {1, 3}, {30, 2}, {60, 1}, {60, 3}, {60, 100}, {200, 8}, {500, 4}} {
		for _, budget := range []int{0, 150, 300, 1000, 3000} {
			for every := range 4 {
				s := shelf.New(plenty)
				a, m := wantOpen(t, s, c), newModel(c)
				for i, x := range steady(120) {
					wantAdded(t, a, m, x)
					if i%(every+1) > 0 {
						continue
					}
					want := m.retain(0, budget)
					n, e := a.Retain(0, budget)
					wantCount(t, "Retain", n, e, want, api.OK)
					wantSmall(t, s, a, budget)
				}
				wantLike(t, s, a, m)
				wantLike(t, s, wantOpen(t, s, c), m)
			}
		}
	}
}

// P11.3, P11.6: a volume of which all went into the base while it was the last one goes once it isn't that any more, though no change goes.
func TestVolumeOfBase(t *testing.T) {
	s := shelf.New(plenty)
	c := Config{1, 2}
	a := wantOpen(t, s, c)
	l := steady(3)
	wantAdds(t, a, l[:2]...)
	n, e := a.Retain(0, 0)
	wantCount(t, "Retain", n, e, 2, api.OK)
	wantAdds(t, a, l[2])
	whole := volume{3, 3, []string{written('S', tableOf(l[:2]))}}.file()
	last := volume{4, 4, []string{written('D', changeOf(l[1], l[2]))}}.file()
	base := written('b', baseOf(l[:2]))
	before := map[string]string{"index": written('L', "\x03\x01\x03"), "b.1": base, "v.3": whole, "v.4": last}
	wantFiles(t, s, before)
	wantTold(t, wantOpen(t, s, c), l, 2)
	n, e = a.Retain(0, a.Bytes()+32)
	wantCount(t, "Retain of what fits", n, e, 0, api.OK)
	wantFiles(t, s, before)
	index := written('L', "\x04\x01\x03")
	for short := 1; short <= len(index); short++ {
		s.Room(s.Used() + len(index) - short)
		n, e = a.Retain(0, 0)
		wantCount(t, "Retain without room", n, e, 0, api.ErrFull)
		wantFiles(t, s, before)
		wantTold(t, a, l, 2)
	}
	s.Room(s.Used() + len(index))
	for range 2 {
		n, e = a.Retain(0, 0)
		wantCount(t, "Retain", n, e, 0, api.OK)
		wantFiles(t, s, map[string]string{"index": index, "b.1": base, "v.4": last})
		wantTold(t, a, l, 2)
	}
	// It goes on, and what it is told then is known behind a fall.
	s.Room(plenty)
	l = steady(9)
	wantAdds(t, a, l[3:]...)
	wantTold(t, a, l, 2)
	wantErr(t, "Sync", a.Sync(), api.OK)
	s.Fall(0, 0)
	wantTold(t, wantOpen(t, s, c), l, 2)
}

// P11.2, P11.3: where such a volume can't go for want of room, an archive that keeps nothing more keeps nothing more still;
// once it has gone there is room again.
func TestVolumeOfBaseFull(t *testing.T) {
	s := shelf.New(plenty)
	c := Config{1, 100}
	a := wantOpen(t, s, c)
	l := steady(3)
	wantAdds(t, a, l[0])
	n, e := a.Compact(1)
	wantCount(t, "Compact", n, e, 1, api.OK)
	wantAdds(t, a, l[1])
	s.Room(s.Used())
	wantErr(t, "Add", a.Add(l[2]), api.ErrFull)
	before := filesOf(s)
	n, e = a.Retain(0, 0)
	wantCount(t, "Retain without room", n, e, 0, api.ErrFull)
	wantFiles(t, s, before)
	if !a.Full() {
		t.Error("it isn't full behind a Retain that was refused")
	}
	wantErr(t, "Add", a.Add(l[2]), api.ErrClosed)
	s.Room(s.Used() + len(before["index"]))
	n, e = a.Retain(0, 0)
	wantCount(t, "Retain", n, e, 0, api.OK)
	wantSmall(t, s, a, 0)
	if a.Full() {
		t.Error("it is full behind a Retain")
	}
	wantAdds(t, a, l[2])
	wantTold(t, a, l, 1)
}

// P11.6: of volumes that another archive could have left: a whole table alone behind the base; and such as have no records.
func TestVolumesOfNothing(t *testing.T) {
	l := some(6)
	one := recordsOf(l[3], l[4])
	for what, volumes := range map[string][][]record{
		"a whole table alone":            {{{'S', tableOf(l[:4])}}, one},
		"no records":                     {{}, one},
		"no records twice":               {{}, {}, one},
		"a whole table, and no records":  {{{'S', tableOf(l[:4])}}, {}, one},
		"a whole table, and nothing yet": {{{'S', tableOf(l[:4])}}, {}},
		"no records, and nothing yet":    {{}, {}},
	} {
		files := chronicleOf(1, baseOf(l[:4]), 4, nil)
		first, all := 5, l[:4]
		for i, r := range volumes {
			v := volume{no: i + 1, first: first}
			for _, x := range r {
				v.l = append(v.l, written(x.kind, x.p))
			}
			files["v."+strconv.Itoa(v.no)] = v.file()
			first += len(r)
			if len(r) > 0 && r[0].kind == 'D' {
				all = l[:5]
			}
		}
		last := len(volumes)
		upto := first - 1 - len(volumes[last-1])
		s := shelfOf(files)
		a := wantOpen(t, s, anyConfig)
		wantTold(t, a, all, 4)
		for range 2 {
			n, e := a.Retain(0, 0)
			wantCount(t, what, n, e, 0, api.OK)
			name := "v." + strconv.Itoa(last)
			wantFiles(t, s, map[string]string{"index": written('L', numbers(uint64(last), 1, uint64(upto))), "b.1": files["b.1"], name: files[name]})
			wantTold(t, a, all, 4)
		}
		wantTold(t, wantOpen(t, s, anyConfig), all, 4)
		wantAdds(t, a, l[len(all):]...)
		wantTold(t, wantOpen(t, s, anyConfig), l, 4)
	}
	// Nor need there be a base.
	s := shelfOf(map[string]string{"index": written('L', "\x01\x00\x00"), "v.1": volume{1, 1, nil}.file(), "v.2": volume{2, 1, []string{written('D', changeOf(api.Change{}, l[0]))}}.file()})
	a := wantOpen(t, s, anyConfig)
	n, e := a.Retain(0, 0)
	wantCount(t, "no records, and no base", n, e, 0, api.OK)
	wantSmall(t, s, a, 0)
	wantTold(t, a, l[:1], 0)
	wantTold(t, wantOpen(t, s, anyConfig), l[:1], 0)
}

// P11.6: of a volume ahead of the last one, where the base goes up to within that.
func TestVolumeAheadOfBase(t *testing.T) {
	l := some(6)
	r := recordsOf(l[0], l[1:]...)
	record := func(i int) string { return written(r[i].kind, r[i].p) }
	last := volume{2, 3, []string{record(1), record(2), record(3)}}.file()
	s := shelfOf(map[string]string{
		"index": written('L', numbers(1, 1, 4)), "b.1": written('b', baseOf(l[:4])),
		"v.1": volume{1, 2, []string{record(0)}}.file(), "v.2": last,
	})
	a := wantOpen(t, s, anyConfig)
	wantTold(t, a, l[:5], 4)
	n, e := a.Retain(0, 0)
	wantCount(t, "Retain", n, e, 0, api.OK)
	wantFiles(t, s, map[string]string{"index": written('L', numbers(2, 1, 4)), "b.1": written('b', baseOf(l[:4])), "v.2": last})
	wantTold(t, a, l[:5], 4)
	wantTold(t, wantOpen(t, s, anyConfig), l[:5], 4)
}

// P11.3: a Retain by which nothing goes does nothing, and takes no room.
func TestRetainNothing(t *testing.T) {
	for _, c := range []Config{{1, 1}, {60, 3}, {plenty, 100}} {
		s, a, m := filled(t, c, 12)
		wantCompacted(t, a, m, m.all[5].Time)
		wantRetained(t, s, a, m, 0, 0)
		s.Room(s.Used())
		done := s.Done()
		for _, oldest := range []uint64{0, m.horizon()} {
			for _, budget := range []int{math.MinInt, 0, plenty} {
				n, e := a.Retain(oldest, budget)
				wantCount(t, "Retain", n, e, 0, api.OK)
			}
		}
		if s.Done() != done {
			t.Errorf("%v: %d acts", c, s.Done()-done)
		}
		wantLike(t, s, a, m)
	}
}

// P11.5: no answer at or behind the horizon changes, and that never goes back.
func TestAnswersStay(t *testing.T) {
	for seed := range 60 {
		x := chance(seed)
		c := configs[seed%len(configs)]
		_, a, m := filled(t, c, 30)
		for range 8 {
			before := answers(a, m.all)
			horizon := a.Horizon()
			if time := lastOf(m.all).Time; x.below(2) == 0 {
				a.Compact(time * uint64(x.below(20)) / 20)
			} else {
				a.Retain(time*uint64(x.below(20))/20, x.below(3000))
			}
			if a.Horizon() < horizon {
				t.Fatalf("the horizon went back from %d to %d", horizon, a.Horizon())
			}
			for time, want := range before {
				got, e := a.At(time)
				if time < a.Horizon() && e == api.ErrHorizon {
					continue
				}
				if e != api.OK || string(got.Encode()) != want {
					t.Fatalf("At(%d): %v, %d", time, got, e)
				}
			}
		}
	}
}

// answers is what an archive tells of all times of which it tells something.
func answers(a *Archive, all []api.Change) map[uint64]string {
	l := map[uint64]string{}
	for _, c := range append(slices.Clone(all), api.Change{}) {
		for _, time := range []uint64{c.Time, c.Time + 1} {
			if x, e := a.At(time); e == api.OK {
				l[time] = string(x.Encode())
			}
		}
	}
	return l
}

// P11.2, P11.3: what is answered is the caller's own, and is used by nothing.
func TestMemory(t *testing.T) {
	s, a, m := filled(t, Config{70, 3}, 20)
	wantCompacted(t, a, m, m.all[6].Time)
	for range 2 {
		at, _ := a.At(m.all[8].Time)
		horizon, _ := a.At(a.Horizon())
		first := a.Base()
		for _, x := range []interface {
			Apply(api.Change) api.Errno
			Last() (uint64, uint64)
		}{a.Now(), first, at, horizon} {
			no, time := x.Last()
			if e := x.Apply(by(no+1, time, prefixOf(3), 9)); e != api.OK {
				t.Fatal(e)
			}
		}
		l := a.Changes()
		_ = append(l[:1], api.Change{No: 77})
		clear(l)
		wantLike(t, s, a, m)
	}
	// What was answered doesn't change by what is told later.
	l, now, first := a.Changes(), a.Now(), a.Base()
	n := m.n
	all := slices.Clone(m.all)
	wantAdded(t, a, m, by(21, lastOf(all).Time, prefixOf(5), 3))
	wantCompacted(t, a, m, m.all[12].Time)
	if !slices.Equal(l, all[n:]) {
		t.Errorf("Changes: %v", l)
	}
	wantTable(t, "Now", now, all)
	wantTable(t, "Base", first, all[:n])
}

// P11.2: without room a change isn't taken, and nothing has changed but that it keeps nothing more.
func TestAddRoom(t *testing.T) {
	for _, c := range configs {
		for n := range 9 {
			all := some(n + 1)
			build := func() (*shelf.Shelf, *Archive, *model) {
				s := shelf.New(plenty)
				a, m := wantOpen(t, s, c), newModel(c)
				for _, x := range all[:n] {
					wantAdded(t, a, m, x)
				}
				return s, a, m
			}
			_, _, alone := build()
			alone.c.Every = math.MaxInt
			alone.add(all[n])
			need := alone.bytes()
			for short := range 12 {
				s, a, m := build()
				if s.Room(need - short); short > 0 {
					refusedFull(t, s, a, m, all[n])
					continue
				}
				// There is room for the change, but not for a whole table behind it.
				wantErr(t, "Add", a.Add(all[n]), api.OK)
				whole := n+1-m.lastSpot() >= c.Every
				if a.Full() != whole {
					t.Fatalf("%v, %d changes: Full %v", c, n+1, a.Full())
				}
				wantFiles(t, s, alone.files())
				wantTold(t, a, all, 0)
			}
		}
	}
}

// refusedFull asks that a change isn't taken for want of room, nor any other then.
func refusedFull(t *testing.T, s *shelf.Shelf, a *Archive, m *model, c api.Change) {
	t.Helper()
	wantErr(t, "Add", a.Add(c), api.ErrFull)
	for range 2 {
		wantFiles(t, s, m.files())
		wantTold(t, a, m.all, 0)
		if !a.Full() || a.Spots() != 1+len(m.wholes) || a.Bytes() != m.bytes() {
			t.Fatalf("Full %v, Spots %d, Bytes %d", a.Full(), a.Spots(), a.Bytes())
		}
		// Now there would be room, but it stays closed. What the table refuses it says first.
		s.Room(plenty)
		wantErr(t, "Add", a.Add(c), api.ErrClosed)
		wantErr(t, "Add", a.Add(api.Change{No: c.No + 1, R: api.Route{P: ten}}), api.ErrOrder)
		wantErr(t, "Sync", a.Sync(), api.OK)
	}
	if len(m.all) == 0 {
		return
	}
	// Behind a Compact it takes changes again.
	wantCompacted(t, a, m, lastOf(m.all).Time)
	wantLike(t, s, a, m)
	wantAdded(t, a, m, c)
	wantLike(t, s, a, m)
}

// P11.2: a whole table for which there was no room isn't missed; one is written as soon as there is.
func TestWholeRoom(t *testing.T) {
	s := shelf.New(plenty)
	a := wantOpen(t, s, Config{1000, 3})
	l := steady(7)
	wantAdds(t, a, l[:2]...)
	s.Room(s.Used() + len(written('D', changeOf(l[1], l[2]))))
	wantAdds(t, a, l[2])
	if a.Spots() != 1 || !a.Full() {
		t.Errorf("Spots %d, Full %v", a.Spots(), a.Full())
	}
	wantErr(t, "Add", a.Add(l[3]), api.ErrClosed)
	s.Room(plenty)
	n, e := a.Compact(1)
	wantCount(t, "Compact", n, e, 1, api.OK)
	wantAdds(t, a, l[3])
	if a.Spots() != 2 || a.Full() {
		t.Errorf("Spots %d, Full %v", a.Spots(), a.Full())
	}
	wantTold(t, wantOpen(t, s, Config{1000, 3}), l[:4], 1)
}

// P11.2: nor is a whole table missed that a fall has lost: the next change has one behind it.
func TestWholeLost(t *testing.T) {
	s := shelf.New(plenty)
	c := Config{1000, 3}
	a := wantOpen(t, s, c)
	l := steady(4)
	wantAdds(t, a, l[:2]...)
	wantErr(t, "Sync", a.Sync(), api.OK)
	wantAdds(t, a, l[2])
	s.Fall(0, len(written('D', changeOf(l[1], l[2])))+5)
	a = wantOpen(t, s, c)
	wantTold(t, a, l[:3], 0)
	if a.Spots() != 1 {
		t.Errorf("Spots %d behind a fall", a.Spots())
	}
	wantAdds(t, a, l[3])
	if a.Spots() != 2 {
		t.Errorf("Spots %d behind one more change", a.Spots())
	}
	wantTold(t, wantOpen(t, s, c), l, 0)
}

// P11.3: without room for a base nothing has changed.
func TestFoldRoom(t *testing.T) {
	for _, c := range []Config{{1, 1}, {60, 3}, {plenty, 100}} {
		s, a, m := filled(t, c, 12)
		later := m.copy()
		time := m.all[5].Time
		later.fold(m.until(time))
		need := s.Used() + len(later.files()["b.1"]) + len(later.files()["index"])
		for short := 1; short <= need-s.Used(); short++ {
			s.Room(need - short)
			n, e := a.Compact(time)
			wantCount(t, "Compact", n, e, 0, api.ErrFull)
			n, e = a.Retain(time+1, math.MaxInt)
			wantCount(t, "Retain", n, e, 0, api.ErrFull)
			wantLike(t, s, a, m)
		}
		s.Room(need)
		n, e := a.Compact(time)
		wantCount(t, "Compact", n, e, later.n, api.OK)
		wantLike(t, s, a, later)
	}
}

// P11.6: of a nil Archive. P1: nor does one panic that Open didn't make.
func TestNil(t *testing.T) {
	var a *Archive
	for _, c := range []api.Change{{}, by(1, 0, ten, 1), {No: 1, R: api.Route{Via: -1}}} {
		wantErr(t, "Add", a.Add(c), api.ErrNone)
	}
	wantErr(t, "Sync", a.Sync(), api.ErrNone)
	for _, time := range []uint64{0, 1, math.MaxUint64} {
		x, e := a.At(time)
		if x != nil || e != api.ErrNone {
			t.Errorf("At(%d): %v, %d", time, x, e)
		}
		n, e := a.Compact(time)
		wantCount(t, "Compact", n, e, 0, api.ErrNone)
		for _, budget := range []int{math.MinInt, 0, math.MaxInt} {
			n, e := a.Retain(time, budget)
			wantCount(t, "Retain", n, e, 0, api.ErrNone)
		}
	}
	if a.Now() != nil || a.Base() != nil || len(a.Changes()) != 0 || a.Horizon() != 0 || a.Full() || a.Bytes() != 0 || a.Spots() != 0 {
		t.Error(a.Now(), a.Base(), a.Changes(), a.Horizon(), a.Full(), a.Bytes(), a.Spots())
	}
	a = &Archive{}
	a.Add(by(1, 0, ten, 1))
	a.Sync()
	a.Now()
	a.Base()
	a.Changes()
	a.Horizon()
	a.At(0)
	a.Compact(9)
	a.Retain(0, 0)
	a.Retain(9, 9999)
	a.Full()
	a.Bytes()
	a.Spots()
}
