package query

import (
	"math"
	"slices"
	"testing"

	"milestone/api"
	"milestone/archive"
	"milestone/shelf"
)

// of is a prefix of four bytes and a length.
func of(a, b, c, d uint32, n uint8) api.Prefix {
	return api.Prefix{Addr: a<<24 | b<<16 | c<<8 | d, Len: n}
}

var (
	top    = api.Prefix{}
	ten    = of(10, 0, 0, 0, 8)
	tenOne = of(10, 1, 0, 0, 16)
	lone   = of(10, 1, 2, 3, 32)
	other  = of(192, 168, 0, 0, 16)
)

// wrong are prefixes that may not be, and have no route at any time, though like ones that have.
var wrong = []api.Prefix{{Addr: 10<<24 | 1, Len: 8}, {Addr: 1}, {Addr: 10 << 24, Len: 40}, {Addr: math.MaxUint32, Len: 31}, {Len: 33}, {Addr: 10 << 24, Len: 255}}

// by is a change by which a prefix has a route by a neighbor.
func by(no, time uint64, p api.Prefix, via int) api.Change {
	return api.Change{No: no, Time: time, R: api.Route{P: p, Via: via, Metric: uint16(via * 7), Seq: uint16(via * 11)}}
}

// gone is a change by which a prefix has no route any more.
func gone(no, time uint64, p api.Prefix) api.Change {
	return api.Change{No: no, Time: time, Gone: true, R: api.Route{P: p}}
}

// opened is an archive of changes.
func opened(t *testing.T, l ...api.Change) *archive.Archive {
	t.Helper()
	a, e := archive.Open(shelf.New(plenty), archive.Config{Most: 60, Every: 3})
	if e != api.OK {
		t.Fatalf("Open: %d", e)
	}
	wantAdds(t, a, l...)
	return a
}

// wantAdds adds changes to an archive, each of which it takes.
func wantAdds(t *testing.T, a *archive.Archive, l ...api.Change) {
	t.Helper()
	for _, c := range l {
		if e := a.Add(c); e != api.OK {
			t.Fatalf("Add(%v): %d", c, e)
		}
	}
}

// compacted is an archive of changes, those up to a time in its base.
func compacted(t *testing.T, time uint64, l ...api.Change) *archive.Archive {
	t.Helper()
	a := opened(t, l...)
	if n, e := a.Compact(time); e != api.OK {
		t.Fatalf("Compact(%d): %d, %d", time, n, e)
	}
	return a
}

// wantRoute asks what Route or Look answered.
func wantRoute(t *testing.T, what string, r api.Route, e api.Errno, want api.Route, wantE api.Errno) {
	t.Helper()
	if r != want || e != wantE {
		t.Errorf("%s: %v, %d, not %v, %d", what, r, e, want, wantE)
	}
}

// wantChanges asks what Range or Flaps answered: beside an error no list at all.
func wantChanges(t *testing.T, what string, l []api.Change, e api.Errno, want []api.Change, wantE api.Errno) {
	t.Helper()
	if !slices.Equal(l, want) || e != wantE {
		t.Errorf("%s: %v, %d, not %v, %d", what, l, e, want, wantE)
	}
}

// wantRoutes asks what Diff answered.
func wantRoutes(t *testing.T, what string, l []api.Route, e api.Errno, want []api.Route, wantE api.Errno) {
	t.Helper()
	if !slices.Equal(l, want) || e != wantE {
		t.Errorf("%s: %v, %d, not %v, %d", what, l, e, want, wantE)
	}
}

// P12.1, P12.2: the example.
func TestExample(t *testing.T) {
	c := by(1, 5, ten, 1)
	a := opened(t, c)
	l, e := Range(a, 5, 9, 0, 9)
	wantChanges(t, "Range", l, e, []api.Change{c}, api.OK)
	r, e := Route(a, 4, ten)
	wantRoute(t, "Route", r, e, api.Route{}, api.ErrNone)
}

// life is a few changes of three prefixes, some at the same time.
func life() []api.Change {
	return []api.Change{
		by(1, 1, ten, 1), by(2, 3, tenOne, 2), gone(3, 5, ten), by(4, 5, ten, 3), by(5, 5, lone, 4),
		gone(6, 9, tenOne), by(7, 12, lone, 5), gone(8, 12, lone), by(9, 12, tenOne, 6),
	}
}

// P12.1: Route is that of a prefix behind all changes of a time.
func TestRoute(t *testing.T) {
	l := life()
	a := opened(t, l...)
	none := api.Change{}
	for _, x := range []struct {
		time uint64
		p    api.Prefix
		c    api.Change
	}{
		{0, ten, none}, {1, ten, l[0]}, {2, ten, l[0]}, {4, ten, l[0]}, {5, ten, l[3]}, {6, ten, l[3]}, {math.MaxUint64, ten, l[3]},
		{2, tenOne, none}, {3, tenOne, l[1]}, {8, tenOne, l[1]}, {9, tenOne, none}, {11, tenOne, none}, {12, tenOne, l[8]},
		{4, lone, none}, {5, lone, l[4]}, {11, lone, l[4]}, {12, lone, none},
		// A prefix in which others lie, or that lies in others, isn't one of them.
		{12, top, none}, {5, of(10, 1, 0, 0, 15), none}, {5, of(10, 1, 0, 0, 17), none}, {5, of(10, 1, 2, 2, 31), none}, {12, other, none},
	} {
		want, wantE := x.c.R, api.OK
		if x.c == none {
			wantE = api.ErrNone
		}
		r, e := Route(a, x.time, x.p)
		wantRoute(t, "Route", r, e, want, wantE)
	}
}

// P12.1, P1: a prefix that may not be has no route.
func TestRouteOfWrongPrefix(t *testing.T) {
	a := opened(t, by(1, 1, top, 1), by(2, 1, ten, 2), by(3, 1, lone, 3), by(4, 1, of(255, 255, 255, 254, 31), 4))
	for _, p := range wrong {
		r, e := Route(a, 1, p)
		wantRoute(t, "Route", r, e, api.Route{}, api.ErrNone)
		l, e := Flaps(a, p, 0, 9)
		wantChanges(t, "Flaps", l, e, nil, api.OK)
	}
}

// P12.1: Look is the route of the longest prefix that has the address, behind all changes of a time.
func TestLook(t *testing.T) {
	l := life()
	a := opened(t, l...)
	none := api.Change{}
	for _, x := range []struct {
		time uint64
		p    api.Prefix
		c    api.Change
	}{
		{0, lone, none}, {1, lone, l[0]}, {2, lone, l[0]}, {3, lone, l[1]}, {4, lone, l[1]}, {5, lone, l[4]}, {9, lone, l[4]}, {11, lone, l[4]}, {12, lone, l[8]},
		{4, of(10, 1, 2, 4, 32), l[1]}, {5, of(10, 1, 2, 4, 32), l[1]}, {9, of(10, 1, 2, 4, 32), l[3]}, {12, of(10, 1, 2, 4, 32), l[8]},
		{4, of(10, 1, 0, 0, 32), l[1]}, {4, of(10, 1, 255, 255, 32), l[1]}, {4, of(10, 2, 0, 0, 32), l[0]}, {4, of(10, 0, 255, 255, 32), l[0]},
		{4, of(9, 255, 255, 255, 32), none}, {4, of(11, 0, 0, 0, 32), none}, {4, top, none}, {4, other, none}, {math.MaxUint64, lone, l[8]},
	} {
		want, wantE := x.c.R, api.OK
		if x.c == none {
			wantE = api.ErrNone
		}
		r, e := Look(a, x.time, x.p.Addr)
		wantRoute(t, "Look", r, e, want, wantE)
	}
}

// P12.1: of all addresses the one of all is the last that is taken.
func TestLookOfAll(t *testing.T) {
	l := []api.Change{by(1, 1, top, 1), by(2, 2, of(128, 0, 0, 0, 1), 2), by(3, 2, of(255, 255, 255, 255, 32), 3)}
	a := opened(t, l...)
	for _, x := range []struct {
		addr uint32
		c    api.Change
	}{{0, l[0]}, {1<<31 - 1, l[0]}, {1 << 31, l[1]}, {math.MaxUint32 - 1, l[1]}, {math.MaxUint32, l[2]}} {
		r, e := Look(a, 2, x.addr)
		wantRoute(t, "Look", r, e, x.c.R, api.OK)
		r, e = Look(a, 1, x.addr)
		wantRoute(t, "Look", r, e, l[0].R, api.OK)
		r, e = Look(a, 0, x.addr)
		wantRoute(t, "Look", r, e, api.Route{}, api.ErrNone)
	}
}

// P12.1: Diff is what was and isn't, or is unlike: of what is new alone it tells nothing.
func TestDiff(t *testing.T) {
	l := life()
	a := opened(t, l...)
	for _, x := range []struct {
		from, to uint64
		want     []api.Route
	}{
		{0, 0, nil}, {0, 12, nil}, {0, math.MaxUint64, nil}, {1, 0, []api.Route{l[0].R}}, {1, 1, nil}, {1, 2, nil}, {1, 4, nil},
		{1, 5, []api.Route{l[0].R}}, {3, 1, []api.Route{l[1].R}}, {4, 9, []api.Route{l[0].R, l[1].R}}, {3, 0, []api.Route{l[0].R, l[1].R}},
		{5, 3, []api.Route{l[3].R, l[4].R}}, {5, 0, []api.Route{l[3].R, l[1].R, l[4].R}}, {5, 9, []api.Route{l[1].R}},
		{5, 12, []api.Route{l[1].R, l[4].R}}, {9, 12, []api.Route{l[4].R}}, {12, 9, []api.Route{l[8].R}},
		{12, math.MaxUint64, nil}, {math.MaxUint64, 12, nil}, {math.MaxUint64, 0, []api.Route{l[3].R, l[8].R}},
	} {
		got, e := Diff(a, x.from, x.to)
		wantRoutes(t, "Diff", got, e, x.want, api.OK)
	}
}

// P12.1: a route is unlike if any part of it is; one that was otherwise for a while, and is as before, isn't.
func TestDiffUnlike(t *testing.T) {
	r := api.Route{P: ten, Via: 3, Metric: 30, Seq: 300}
	for _, x := range []api.Route{{P: ten, Via: 4, Metric: 30, Seq: 300}, {P: ten, Via: 3, Metric: 31, Seq: 300}, {P: ten, Via: 3, Metric: 30, Seq: 301}} {
		a := opened(t, api.Change{No: 1, Time: 1, R: r}, api.Change{No: 2, Time: 2, R: x}, gone(3, 3, ten), api.Change{No: 4, Time: 4, R: r})
		l, e := Diff(a, 1, 2)
		wantRoutes(t, "Diff", l, e, []api.Route{r}, api.OK)
		l, e = Diff(a, 2, 1)
		wantRoutes(t, "Diff", l, e, []api.Route{x}, api.OK)
		l, e = Diff(a, 2, 3)
		wantRoutes(t, "Diff", l, e, []api.Route{x}, api.OK)
		l, e = Diff(a, 3, 2)
		wantRoutes(t, "Diff", l, e, nil, api.OK)
		l, e = Diff(a, 1, 4)
		wantRoutes(t, "Diff", l, e, nil, api.OK)
	}
}

// P12.1: Diff rises by prefixes, whatever the order of the changes.
func TestDiffRises(t *testing.T) {
	rising := []api.Prefix{top, of(0, 0, 0, 0, 32), ten, tenOne, lone, other, of(255, 0, 0, 0, 8), of(255, 255, 255, 255, 32)}
	for turn := range len(rising) {
		var l []api.Change
		var want []api.Route
		for i := range rising {
			l = append(l, by(uint64(i+1), 1, rising[(i*3+turn)%len(rising)], i%5))
		}
		for _, p := range rising {
			want = append(want, l[slices.IndexFunc(l, func(c api.Change) bool { return c.R.P == p })].R)
		}
		got, e := Diff(opened(t, l...), 1, 0)
		wantRoutes(t, "Diff", got, e, want, api.OK)
	}
}

// P12.1: ahead of the horizon nothing is told, whatever is asked; at it all is.
func TestHorizon(t *testing.T) {
	l := life()
	a := compacted(t, 5, l...)
	for _, time := range []uint64{0, 1, 4} {
		for _, p := range append([]api.Prefix{top, ten, tenOne, lone, other}, wrong...) {
			r, e := Route(a, time, p)
			wantRoute(t, "Route", r, e, api.Route{}, api.ErrHorizon)
			r, e = Look(a, time, p.Addr)
			wantRoute(t, "Look", r, e, api.Route{}, api.ErrHorizon)
		}
		for _, x := range [][2]uint64{{time, 9}, {9, time}, {time, time}} {
			got, e := Diff(a, x[0], x[1])
			wantRoutes(t, "Diff", got, e, nil, api.ErrHorizon)
		}
	}
	r, e := Route(a, 5, ten)
	wantRoute(t, "Route", r, e, l[3].R, api.OK)
	r, e = Look(a, 5, lone.Addr)
	wantRoute(t, "Look", r, e, l[4].R, api.OK)
	r, e = Route(a, 5, other)
	wantRoute(t, "Route", r, e, api.Route{}, api.ErrNone)
	got, e := Diff(a, 5, 9)
	wantRoutes(t, "Diff", got, e, []api.Route{l[1].R}, api.OK)
	got, e = Diff(a, 9, 5)
	wantRoutes(t, "Diff", got, e, nil, api.OK)
}

// P12.2: Range is the changes of times, both ends among them, behind a number, the first so many.
func TestRange(t *testing.T) {
	l := life()
	a := opened(t, l...)
	for _, x := range []struct {
		from, to, behind uint64
		most             int
		want             []api.Change
	}{
		{0, math.MaxUint64, 0, math.MaxInt, l}, {0, 12, 0, 9, l}, {1, 12, 0, 10, l}, {0, 12, 0, 8, l[:8]}, {0, 12, 0, 1, l[:1]}, {0, 12, 0, 0, nil},
		{0, 0, 0, 9, nil}, {1, 1, 0, 9, l[:1]}, {2, 2, 0, 9, nil}, {1, 2, 0, 9, l[:1]}, {2, 3, 0, 9, l[1:2]}, {2, 4, 0, 9, l[1:2]},
		{5, 5, 0, 9, l[2:5]}, {5, 8, 0, 9, l[2:5]}, {5, 9, 0, 9, l[2:6]}, {6, 11, 0, 9, l[5:6]}, {10, 11, 0, 9, nil}, {12, 12, 0, 9, l[6:]}, {12, math.MaxUint64, 0, 9, l[6:]},
		{13, math.MaxUint64, 0, 9, nil}, {math.MaxUint64, math.MaxUint64, 0, 9, nil},
		{0, 12, 1, 9, l[1:]}, {0, 12, 8, 9, l[8:]}, {0, 12, 9, 9, nil}, {0, 12, 10, 9, nil}, {0, 12, math.MaxUint64, math.MaxInt, nil},
		{5, 5, 1, 9, l[2:5]}, {5, 5, 2, 9, l[2:5]}, {5, 5, 3, 9, l[3:5]}, {5, 5, 4, 9, l[4:5]}, {5, 5, 5, 9, nil}, {5, 5, 3, 1, l[3:4]}, {5, 5, 3, 0, nil},
		{5, 9, 2, 2, l[2:4]}, {0, 9, 2, 2, l[2:4]},
	} {
		got, e := Range(a, x.from, x.to, x.behind, x.most)
		wantChanges(t, "Range", got, e, x.want, api.OK)
	}
}

// P12.2: what may not be asked, and in which order it is told.
func TestRangeErrors(t *testing.T) {
	a := compacted(t, 5, life()...)
	for _, x := range []struct {
		from, to uint64
		most     int
		want     api.Errno
	}{
		{9, 8, 9, api.ErrArg}, {9, 5, 9, api.ErrArg}, {9, 0, 9, api.ErrArg}, {1, 0, 9, api.ErrArg}, {4, 3, 9, api.ErrArg}, {math.MaxUint64, 1<<63 - 1, 9, api.ErrArg},
		{5, 9, -1, api.ErrArg}, {5, 9, math.MinInt, api.ErrArg}, {4, 9, -1, api.ErrArg}, {9, 5, -1, api.ErrArg},
		{4, 9, 9, api.ErrHorizon}, {4, 4, 9, api.ErrHorizon}, {0, 0, 9, api.ErrHorizon}, {4, 5, 9, api.ErrHorizon}, {4, 9, 0, api.ErrHorizon}, {0, math.MaxUint64, 9, api.ErrHorizon},
	} {
		for _, behind := range []uint64{0, 5, 7, math.MaxUint64} {
			l, e := Range(a, x.from, x.to, behind, x.most)
			wantChanges(t, "Range", l, e, nil, x.want)
		}
		if x.most < 0 && x.from <= x.to {
			continue
		}
		for _, p := range []api.Prefix{ten, lone, other, wrong[0]} {
			l, e := Flaps(a, p, x.from, x.to)
			wantChanges(t, "Flaps", l, e, nil, x.want)
		}
	}
}

// P12.2: at the horizon those of its time are told that aren't in the base.
func TestRangeAtHorizon(t *testing.T) {
	l := life()
	a := compacted(t, 5, l[:5]...)
	got, e := Range(a, 5, 9, 0, 9)
	wantChanges(t, "Range", got, e, nil, api.OK)
	more := []api.Change{gone(6, 5, tenOne), by(7, 7, tenOne, 8)}
	wantAdds(t, a, more...)
	got, e = Range(a, 5, 9, 0, 9)
	wantChanges(t, "Range", got, e, more, api.OK)
	got, e = Range(a, 5, 5, 5, 9)
	wantChanges(t, "Range", got, e, more[:1], api.OK)
	got, e = Flaps(a, tenOne, 5, 9)
	wantChanges(t, "Flaps", got, e, more, api.OK)
	got, e = Flaps(a, ten, 5, 9)
	wantChanges(t, "Flaps", got, e, nil, api.OK)
}

// P12.2: Flaps are all changes of one prefix, both ends among them: not of what lies in it.
func TestFlaps(t *testing.T) {
	l := life()
	a := opened(t, l...)
	for _, x := range []struct {
		p        api.Prefix
		from, to uint64
		want     []api.Change
	}{
		{ten, 0, math.MaxUint64, []api.Change{l[0], l[2], l[3]}}, {ten, 2, 9, []api.Change{l[2], l[3]}}, {ten, 1, 4, []api.Change{l[0]}}, {ten, 2, 4, nil}, {ten, 5, 5, []api.Change{l[2], l[3]}},
		{tenOne, 0, 12, []api.Change{l[1], l[5], l[8]}}, {tenOne, 3, 9, []api.Change{l[1], l[5]}}, {tenOne, 4, 8, nil},
		{lone, 12, 12, []api.Change{l[6], l[7]}}, {lone, 0, math.MaxUint64, []api.Change{l[4], l[6], l[7]}}, {lone, 13, math.MaxUint64, nil},
		{top, 0, 12, nil}, {other, 0, 12, nil}, {of(10, 0, 0, 0, 9), 0, 12, nil}, {of(10, 1, 0, 0, 15), 0, 12, nil},
	} {
		got, e := Flaps(a, x.p, x.from, x.to)
		wantChanges(t, "Flaps", got, e, x.want, api.OK)
	}
}

// P12.2: times may be any.
func TestAnyTimes(t *testing.T) {
	l := []api.Change{by(1, 0, ten, 1), by(2, 1<<63, ten, 2), gone(3, math.MaxUint64, ten), by(4, math.MaxUint64, tenOne, 3)}
	a := opened(t, l...)
	for _, x := range []struct {
		from, to uint64
		want     []api.Change
	}{{0, 0, l[:1]}, {0, 1<<63 - 1, l[:1]}, {0, 1 << 63, l[:2]}, {1, math.MaxUint64 - 1, l[1:2]}, {1, math.MaxUint64, l[1:]}, {math.MaxUint64, math.MaxUint64, l[2:]}} {
		got, e := Range(a, x.from, x.to, 0, 9)
		wantChanges(t, "Range", got, e, x.want, api.OK)
	}
	r, e := Route(a, math.MaxUint64-1, ten)
	wantRoute(t, "Route", r, e, l[1].R, api.OK)
	r, e = Look(a, math.MaxUint64, lone.Addr)
	wantRoute(t, "Look", r, e, l[3].R, api.OK)
	got, e := Diff(a, 1<<63, math.MaxUint64)
	wantRoutes(t, "Diff", got, e, []api.Route{l[1].R}, api.OK)
}

// P12.3: by pages of any size, each behind the last one's last number, all comes, each once, in order.
func TestPages(t *testing.T) {
	all := some(40)
	a := opened(t, all...)
	for _, times := range [][2]uint64{{0, math.MaxUint64}, {all[7].Time, all[30].Time}, {all[20].Time, all[20].Time}, {0, 0}} {
		whole, e := Range(a, times[0], times[1], 0, math.MaxInt)
		wantChanges(t, "Range", whole, e, between(all, times[0], times[1]), api.OK)
		for most := 1; most < 45; most++ {
			wantPages(t, a, times, most, whole)
		}
	}
}

// wantPages asks that pages of some size are a whole Range: each but the last one is full.
func wantPages(t *testing.T, a *archive.Archive, times [2]uint64, most int, whole []api.Change) {
	t.Helper()
	var got []api.Change
	behind := uint64(0)
	for pages := 0; ; pages++ {
		page, e := Range(a, times[0], times[1], behind, most)
		if e != api.OK || len(page) > most || pages > len(whole) {
			t.Fatalf("page %d of %d: %v, %d", pages, most, page, e)
		}
		got = append(got, page...)
		if len(page) < most {
			break
		}
		behind = page[len(page)-1].No
	}
	if !slices.Equal(got, whole) {
		t.Errorf("pages of %d: %v, not %v", most, got, whole)
	}
}

// P12.2, P1: of a nil archive ErrNone goes ahead of all.
func TestNilArchive(t *testing.T) {
	for _, time := range []uint64{0, 5, math.MaxUint64} {
		for _, p := range append([]api.Prefix{top, ten, lone}, wrong...) {
			r, e := Route(nil, time, p)
			wantRoute(t, "Route", r, e, api.Route{}, api.ErrNone)
			r, e = Look(nil, time, p.Addr)
			wantRoute(t, "Look", r, e, api.Route{}, api.ErrNone)
			l, e := Flaps(nil, p, time, 4)
			wantChanges(t, "Flaps", l, e, nil, api.ErrNone)
		}
		for _, most := range []int{math.MinInt, -1, 0, 1, math.MaxInt} {
			l, e := Range(nil, time, 4, 0, most)
			wantChanges(t, "Range", l, e, nil, api.ErrNone)
		}
		l, e := Diff(nil, time, 4)
		wantRoutes(t, "Diff", l, e, nil, api.ErrNone)
	}
}

// P12.1, P12.2: an archive without changes has nothing, at all times.
func TestEmpty(t *testing.T) {
	a := opened(t)
	for _, time := range []uint64{0, 5, math.MaxUint64} {
		r, e := Route(a, time, ten)
		wantRoute(t, "Route", r, e, api.Route{}, api.ErrNone)
		r, e = Look(a, time, 10<<24)
		wantRoute(t, "Look", r, e, api.Route{}, api.ErrNone)
		l, e := Range(a, 0, time, 0, 9)
		wantChanges(t, "Range", l, e, nil, api.OK)
		l, e = Flaps(a, ten, 0, time)
		wantChanges(t, "Flaps", l, e, nil, api.OK)
		d, e := Diff(a, time, 0)
		wantRoutes(t, "Diff", d, e, nil, api.OK)
	}
}

// P2: to ask changes nothing, and what is answered is the asker's own.
func TestAnswersAreOwn(t *testing.T) {
	all := life()
	a := opened(t, all...)
	for range 3 {
		l, e := Range(a, 1, 5, 0, 3)
		wantChanges(t, "Range", l, e, all[:3], api.OK)
		l = append(l, by(99, 99, other, 9))
		l[0], l[2] = api.Change{}, api.Change{}
		l, e = Flaps(a, ten, 1, 4)
		wantChanges(t, "Flaps", l, e, all[:1], api.OK)
		l = append(l, by(99, 99, other, 9))
		l[0] = api.Change{}
		d, e := Diff(a, 4, 9)
		wantRoutes(t, "Diff", d, e, []api.Route{all[0].R, all[1].R}, api.OK)
		d = append(d[:1], api.Route{})
		d[0] = api.Route{}
		if !slices.Equal(a.Changes(), all) {
			t.Fatalf("Changes: %v, not %v", a.Changes(), all)
		}
	}
}
