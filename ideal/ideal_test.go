package ideal

import (
	"math"
	"slices"
	"testing"

	"milestone/api"
)

var (
	all    = api.Prefix{}
	ten    = api.Prefix{Addr: 0x0a000000, Len: 8}
	tenOne = api.Prefix{Addr: 0x0a010000, Len: 16}
	eleven = api.Prefix{Addr: 0x0b000000, Len: 8}
	high   = api.Prefix{Addr: 0xffffffff, Len: 32}
)

// put is a change by which a prefix has a route.
func put(no, time uint64, p api.Prefix, via int, metric, seq uint16) api.Change {
	return api.Change{No: no, Time: time, R: api.Route{P: p, Via: via, Metric: metric, Seq: seq}}
}

// gone is a change by which a prefix has none.
func gone(no, time uint64, p api.Prefix) api.Change {
	return api.Change{No: no, Time: time, Gone: true, R: api.Route{P: p}}
}

// of is an Ideal of some changes.
func of(t *testing.T, l ...api.Change) *Ideal {
	t.Helper()
	x := New()
	for _, c := range l {
		wantErrno(t, "Add", x.Add(c), api.OK)
	}
	return x
}

// at is an Ideal of changes of these times: the i-th one, from 0 on, goes by neighbor i.
func at(t *testing.T, times ...uint64) *Ideal {
	t.Helper()
	x := New()
	for i, time := range times {
		wantErrno(t, "Add", x.Add(put(uint64(i)+1, time, ten, i, 9, 1)), api.OK)
	}
	return x
}

func wantErrno(t *testing.T, call string, got, want api.Errno) {
	t.Helper()
	if got != want {
		t.Fatalf("%s: %d, not %d", call, got, want)
	}
}

// wantCounts asks how many changes there are, are safe, are cut.
func wantCounts(t *testing.T, x *Ideal, n, safe, cut int) {
	t.Helper()
	if x.Len() != n || x.Safe() != safe || x.Cut() != cut {
		t.Fatalf("%d, safe %d, cut %d; not %d, %d, %d", x.Len(), x.Safe(), x.Cut(), n, safe, cut)
	}
}

func wantChanges(t *testing.T, x *Ideal, want ...api.Change) {
	t.Helper()
	if got := x.Changes(); !slices.Equal(got, want) {
		t.Fatalf("Changes: %v, not %v", got, want)
	}
}

func wantRows(t *testing.T, x *Ideal, n int, want ...api.Row) {
	t.Helper()
	if got := x.Rows(n); !slices.Equal(got, want) {
		t.Fatalf("Rows(%d): %v, not %v", n, got, want)
	}
}

func wantAt(t *testing.T, x *Ideal, time uint64, want ...api.Route) {
	t.Helper()
	if got, e := x.At(time); e != api.OK || !slices.Equal(got, want) {
		t.Fatalf("At(%d): %v, %d; not %v", time, got, e, want)
	}
}

func wantHorizon(t *testing.T, x *Ideal, time uint64) {
	t.Helper()
	if got := x.Horizon(); got != time {
		t.Fatalf("Horizon: %d, not %d", got, time)
	}
}

func wantAhead(t *testing.T, x *Ideal, time uint64) {
	t.Helper()
	if got, e := x.At(time); e != api.ErrHorizon || len(got) != 0 {
		t.Fatalf("At(%d): %v, %d; not ErrHorizon", time, got, e)
	}
}

// has is the row of a prefix that has a route, and lacks that of one that has none.
func has(r api.Route, seq, metric uint16) api.Row {
	return api.Row{P: r.P, Has: true, R: r, M: api.Mark{Seq: seq, Metric: metric}}
}

func lacks(p api.Prefix, seq, metric uint16) api.Row {
	return api.Row{P: p, R: api.Route{P: p}, M: api.Mark{Seq: seq, Metric: metric}}
}

// P20.1: the example of the document.
func TestExample(t *testing.T) {
	x := New()
	x.Add(put(1, 0, ten, 0, 0, 1))
	x.Sync()
	wantErrno(t, "Fell", x.Fell(0, 0), api.ErrArg)
}

// P20.1, P20.2: a new one has nothing.
func TestNew(t *testing.T) {
	for range 2 {
		x := New()
		wantCounts(t, x, 0, 0, 0)
		wantHorizon(t, x, 0)
		wantChanges(t, x)
		for _, n := range []int{-1, 0, 1} {
			wantRows(t, x, n)
		}
		for _, time := range []uint64{0, 1, math.MaxUint64} {
			wantAt(t, x, time)
		}
		// What is told to one isn't told to the next one.
		x.Add(put(1, 0, ten, 0, 0, 1))
		x.Fold(1)
	}
}

// P20.1: where there is nothing, it can be safe, folded and fallen all the same.
func TestNothingCounts(t *testing.T) {
	x := New()
	x.Sync()
	wantErrno(t, "Fold", x.Fold(0), api.OK)
	wantErrno(t, "Fell", x.Fell(0, 0), api.OK)
	wantErrno(t, "Fold", x.Fold(1), api.ErrArg)
	wantErrno(t, "Fell", x.Fell(1, 0), api.ErrArg)
	wantErrno(t, "Fell", x.Fell(0, 1), api.ErrArg)
	wantCounts(t, x, 0, 0, 0)
}

// P20.1: what is added is there, and isn't safe; P20.2: Changes are those, in their order.
func TestAdd(t *testing.T) {
	l := []api.Change{put(1, 0, ten, 0, 0, 0), put(2, 0, all, 15, 65534, 65535), gone(3, 7, ten), put(4, 7, high, 1, 1, 1), gone(5, math.MaxUint64, high), put(6, math.MaxUint64, ten, 2, 3, 4)}
	x := New()
	for i, c := range l {
		wantErrno(t, "Add", x.Add(c), api.OK)
		wantCounts(t, x, i+1, 0, 0)
		wantChanges(t, x, l[:i+1]...)
	}
}

// wrongs are changes that may not be, but for that the next ones.
func wrongs(no, time uint64) []api.Change {
	var l []api.Change
	for _, p := range []api.Prefix{{Len: 33}, {Len: 255}, {Addr: 1}, {Addr: 0x0a000001, Len: 8}, {Addr: 0x0a800000, Len: 8}, {Addr: 0xffffffff, Len: 31}} {
		l = append(l, put(no, time, p, 0, 0, 0), gone(no, time, p))
	}
	for _, via := range []int{-1, 16, 17, 256, 1 << 32, math.MinInt, math.MaxInt} {
		l = append(l, put(no, time, ten, via, 0, 0))
	}
	l = append(l, put(no, time, ten, 0, api.Endless, 0))
	for _, r := range []api.Route{{Via: 1}, {Metric: 1}, {Seq: 1}, {Via: -1}, {Metric: api.Endless}, {Seq: 65535}} {
		r.P = ten
		l = append(l, api.Change{No: no, Time: time, Gone: true, R: r})
	}
	return l
}

// unordered are changes that may be, but don't follow one of a number above 0 and a time above 0.
func unordered(no, time uint64) []api.Change {
	var l []api.Change
	for _, n := range []uint64{0, no - 1, no, no + 2, no + 3, math.MaxUint64} {
		l = append(l, put(n, time, ten, 0, 0, 0), gone(n, time+1, ten))
	}
	for _, before := range []uint64{0, time - 1} {
		l = append(l, put(no+1, before, ten, 0, 0, 0), gone(no+1, before, ten))
	}
	return l
}

// wantRefused asks that a change is refused, and nothing has changed.
func wantRefused(t *testing.T, x *Ideal, c api.Change, want api.Errno) {
	t.Helper()
	n, safe, cut, changes, rows := x.Len(), x.Safe(), x.Cut(), x.Changes(), x.Rows(x.Len())
	if e := x.Add(c); e != want {
		t.Fatalf("Add(%v): %d, not %d", c, e, want)
	}
	wantCounts(t, x, n, safe, cut)
	wantChanges(t, x, changes...)
	wantRows(t, x, n, rows...)
}

// P20.1: ErrArg: it isn't Right.
func TestAddWrong(t *testing.T) {
	for _, c := range wrongs(1, 0) {
		wantRefused(t, New(), c, api.ErrArg)
	}
	for _, c := range wrongs(3, 9) {
		wantRefused(t, at(t, 5, 9), c, api.ErrArg)
	}
}

// P20.1: ErrOrder: it doesn't follow the last one; the first one has the number 1.
func TestAddUnordered(t *testing.T) {
	for _, no := range []uint64{0, 2, 3, math.MaxUint64} {
		wantRefused(t, New(), put(no, 5, ten, 0, 0, 0), api.ErrOrder)
		wantRefused(t, New(), gone(no, 0, ten), api.ErrOrder)
	}
	for _, c := range unordered(2, 9) {
		wantRefused(t, at(t, 5, 9), c, api.ErrOrder)
		// The last one is the last one, safe and cut or not.
		x := at(t, 5, 9)
		x.Fold(2)
		wantRefused(t, x, c, api.ErrOrder)
	}
	for _, time := range []uint64{9, 10, math.MaxUint64} {
		wantErrno(t, "Add", at(t, 5, 9).Add(gone(3, time, ten)), api.OK)
	}
}

// P20.1: ErrArg goes ahead of ErrOrder.
func TestAddWrongAndUnordered(t *testing.T) {
	for _, no := range []uint64{0, 1, 2, 4} {
		for _, c := range wrongs(no, 8) {
			wantRefused(t, at(t, 5, 9), c, api.ErrArg)
		}
	}
}

// P20.1, P20.2: no more is asked of a change: what is gone need not have been there (it has no row then), and prefixes may be many.
func TestAddAsksNoMore(t *testing.T) {
	x := of(t, gone(1, 1, ten), put(2, 2, eleven, 1, 5, 1), gone(3, 3, eleven), gone(4, 4, eleven))
	wantRows(t, x, 1)
	wantRows(t, x, 3, lacks(eleven, 1, 5))
	wantRows(t, x, 4, lacks(eleven, 1, 5))
	wantAt(t, x, 4)
	wantErrno(t, "Add", x.Add(put(5, 5, ten, 2, 7, 9)), api.OK)
	wantRows(t, x, 5, has(api.Route{P: ten, Via: 2, Metric: 7, Seq: 9}, 9, 7), lacks(eleven, 1, 5))

	x = New()
	n := 2*api.MaxRoutes + 1
	for i := range n {
		wantErrno(t, "Add", x.Add(put(uint64(i)+1, 0, api.Prefix{Addr: uint32(i) << 16, Len: 16}, 0, 0, 0)), api.OK)
	}
	if l, e := x.At(0); len(l) != n || e != api.OK || len(x.Rows(n)) != n {
		t.Errorf("of %d: %d routes, %d; %d rows", n, len(l), e, len(x.Rows(n)))
	}
}

// P20.1: Sync: all that is there is safe, what comes behind it isn't.
func TestSync(t *testing.T) {
	x := at(t, 1, 2)
	x.Sync()
	wantCounts(t, x, 2, 2, 0)
	x.Add(gone(3, 3, ten))
	wantCounts(t, x, 3, 2, 0)
	for range 2 {
		x.Sync()
		wantCounts(t, x, 3, 3, 0)
	}
}

// P20.1: Fold, of any number, behind any: those are cut, and all are safe, those too that aren't cut.
func TestFold(t *testing.T) {
	for size := range 5 {
		for cut := range size + 1 {
			for n := -2; n <= size+2; n++ {
				x := at(t, []uint64{3, 4, 6, 6, 9}[:size]...)
				wantErrno(t, "Fold", x.Fold(cut), api.OK)
				wantErrno(t, "Add", x.Add(gone(uint64(size)+1, 10, ten)), api.OK)
				wantCounts(t, x, size+1, size, cut)
				if n < cut || n > size+1 {
					wantErrno(t, "Fold", x.Fold(n), api.ErrArg)
					wantCounts(t, x, size+1, size, cut)
					continue
				}
				wantErrno(t, "Fold", x.Fold(n), api.OK)
				wantCounts(t, x, size+1, size+1, n)
			}
		}
	}
	x := at(t, 1, 2)
	for _, n := range []int{3, math.MaxInt, -1, math.MinInt, 1 << 32, 1<<32 + 1} {
		wantErrno(t, "Fold", x.Fold(n), api.ErrArg)
	}
	wantCounts(t, x, 2, 0, 0)
}

// P20.1: Fell, of any two numbers, behind any fold and sync: all that is left is safe, and no more is there.
func TestFell(t *testing.T) {
	times := []uint64{3, 4, 6, 6, 9}
	for cut := range 4 {
		for safe := cut; safe <= 4; safe++ {
			for left := -2; left <= len(times)+2; left++ {
				for now := -2; now <= len(times)+2; now++ {
					wantFell(t, times, safe, cut, left, now)
				}
			}
		}
	}
}

// wantFell asks what comes of a fall where so many of the changes are safe and cut.
func wantFell(t *testing.T, times []uint64, safe, cut, left, now int) {
	t.Helper()
	x := at(t, times[:safe]...)
	wantErrno(t, "Fold", x.Fold(cut), api.OK)
	for i, time := range times[safe:] {
		wantErrno(t, "Add", x.Add(put(uint64(safe+i)+1, time, ten, safe+i, 9, 1)), api.OK)
	}
	wantCounts(t, x, len(times), safe, cut)
	whole := at(t, times...).Changes()
	if left < safe || left > len(times) || now < cut || now > left {
		wantErrno(t, "Fell", x.Fell(left, now), api.ErrArg)
		wantCounts(t, x, len(times), safe, cut)
		wantChanges(t, x, whole[cut:]...)
		return
	}
	wantErrno(t, "Fell", x.Fell(left, now), api.OK)
	wantCounts(t, x, left, left, now)
	wantChanges(t, x, whole[now:left]...)
	if len(x.Rows(9)) != min(left, 1) || left > 0 && x.Rows(9)[0].R.Via != left-1 {
		t.Fatalf("behind Fell(%d, %d): %v", left, now, x.Rows(9))
	}
}

// P20.1: Fell of numbers that are none of changes.
func TestFellFar(t *testing.T) {
	x := at(t, 1, 2)
	x.Fold(1)
	for _, n := range []int{-1, 0, 3, 1 << 32, 1<<32 + 1, math.MinInt, math.MaxInt} {
		wantErrno(t, "Fell", x.Fell(n, 1), api.ErrArg)
		wantErrno(t, "Fell", x.Fell(2, n), api.ErrArg)
		wantErrno(t, "Fell", x.Fell(n, n), api.ErrArg)
	}
	wantCounts(t, x, 2, 2, 1)
}

// P20.1: behind a fall it goes on from the last that is left; those that are there no more aren't followed, and never come back.
func TestAddBehindFell(t *testing.T) {
	x := at(t, 1, 2)
	x.Sync()
	x.Add(put(3, 50, eleven, 3, 3, 3))
	x.Add(put(4, 60, eleven, 4, 2, 3))
	wantErrno(t, "Fell", x.Fell(2, 0), api.OK)
	wantRefused(t, x, put(5, 70, eleven, 5, 5, 5), api.ErrOrder)
	wantRefused(t, x, put(3, 1, eleven, 5, 5, 5), api.ErrOrder)
	wantErrno(t, "Add", x.Add(put(3, 2, eleven, 5, 5, 3)), api.OK)
	wantCounts(t, x, 3, 2, 0)
	wantChanges(t, x, put(1, 1, ten, 0, 9, 1), put(2, 2, ten, 1, 9, 1), put(3, 2, eleven, 5, 5, 3))
	// Nor does the mark that fell count.
	wantRows(t, x, 4, has(api.Route{P: ten, Via: 1, Metric: 9, Seq: 1}, 1, 9), has(api.Route{P: eleven, Via: 5, Metric: 5, Seq: 3}, 3, 5))
	wantErrno(t, "Fell", x.Fell(4, 0), api.ErrArg)
	wantErrno(t, "Fell", x.Fell(3, 3), api.OK)
	wantHorizon(t, x, 2)

	x = New()
	x.Add(put(1, 9, ten, 1, 1, 1))
	wantErrno(t, "Fell", x.Fell(0, 0), api.OK)
	wantCounts(t, x, 0, 0, 0)
	wantRefused(t, x, put(2, 9, ten, 1, 1, 1), api.ErrOrder)
	wantErrno(t, "Add", x.Add(put(1, 0, ten, 2, 2, 2)), api.OK)
	wantChanges(t, x, put(1, 0, ten, 2, 2, 2))
}

// P20.2: Horizon is the time of the last that is cut, and 0 of none; Changes are those behind that.
func TestHorizonAndChanges(t *testing.T) {
	times := []uint64{0, 3, 3, 7, 1 << 63, math.MaxUint64}
	whole := at(t, times...).Changes()
	x := at(t, times...)
	wantHorizon(t, x, 0)
	wantChanges(t, x, whole...)
	for i, time := range times {
		wantErrno(t, "Fold", x.Fold(i+1), api.OK)
		wantHorizon(t, x, time)
		wantChanges(t, x, whole[i+1:]...)
	}
	// Neither what is safe nor what isn't moves it.
	x = at(t, 5, 6)
	x.Sync()
	wantHorizon(t, x, 0)
	x.Fold(1)
	x.Add(put(3, 8, ten, 2, 9, 1))
	wantHorizon(t, x, 5)
	x.Fell(3, 2)
	wantHorizon(t, x, 6)
	wantChanges(t, x, put(3, 8, ten, 2, 9, 1))
}

// P20.2: Rows of the first n: a row for each prefix that ever had a route, rising; what is gone keeps its mark.
func TestRows(t *testing.T) {
	x := of(t,
		put(1, 1, high, 1, 50, 5),
		put(2, 1, ten, 2, 60, 5),
		put(3, 1, tenOne, 3, 70, 5),
		gone(4, 2, ten),
		put(5, 2, all, 4, 80, 5),
		put(6, 3, high, 5, 55, 5),
		put(7, 3, ten, 6, 61, 5),
		gone(8, 4, high))
	one := has(api.Route{P: high, Via: 1, Metric: 50, Seq: 5}, 5, 50)
	two := has(api.Route{P: ten, Via: 2, Metric: 60, Seq: 5}, 5, 60)
	three := has(api.Route{P: tenOne, Via: 3, Metric: 70, Seq: 5}, 5, 70)
	five := has(api.Route{P: all, Via: 4, Metric: 80, Seq: 5}, 5, 80)
	six := has(api.Route{P: high, Via: 5, Metric: 55, Seq: 5}, 5, 50)
	seven := has(api.Route{P: ten, Via: 6, Metric: 61, Seq: 5}, 5, 60)
	want := [][]api.Row{
		nil,
		{one},
		{two, one},
		{two, three, one},
		{lacks(ten, 5, 60), three, one},
		{five, lacks(ten, 5, 60), three, one},
		{five, lacks(ten, 5, 60), three, six},
		{five, seven, three, six},
		{five, seven, three, lacks(high, 5, 50)},
	}
	for _, cut := range []int{0, 3, 8} {
		x.Fold(cut)
		for n, rows := range want {
			wantRows(t, x, n, rows...)
		}
		// Below 0 there are none, and above Len no more than all.
		for _, n := range []int{-1, -8, math.MinInt} {
			wantRows(t, x, n)
		}
		for _, n := range []int{9, 100, 1 << 32, math.MaxInt} {
			wantRows(t, x, n, want[8]...)
		}
	}
}

// P20.2: rows rise by addresses, then by how long the prefixes are, in whatever order they came.
func TestRowsRise(t *testing.T) {
	rising := []api.Prefix{all, {Len: 1}, {Len: 32}, ten, {Addr: 0x0a000000, Len: 9}, tenOne, eleven, {Addr: 0x80000000, Len: 1}, {Addr: 0xff000000, Len: 8}, high}
	for _, step := range []int{1, 3, 7, 9} {
		x := New()
		for i := range rising {
			wantErrno(t, "Add", x.Add(put(uint64(i)+1, 0, rising[(i*step+3)%10], 0, 0, 0)), api.OK)
		}
		routes, _ := x.At(0)
		for i, row := range x.Rows(10) {
			if row.P != rising[i] || routes[i].P != rising[i] {
				t.Errorf("step %d: %v at %d", step, row.P, i)
			}
		}
	}
}

// P20.2: a mark is the Best of those of all routes so far: a newer serial goes ahead, of one serial the lesser metric. It stays where no route does.
func TestMarks(t *testing.T) {
	x := New()
	for i, s := range []struct{ seq, metric, bestSeq, best uint16 }{
		{0, 100, 0, 100},
		{0, 101, 0, 100},
		{0, 99, 0, 99},
		{1, 65534, 1, 65534},
		{1, 7, 1, 7},
		{0, 0, 1, 7},
		{65535, 3, 1, 7},
		{30000, 9, 30000, 9},
		{60000, 9, 60000, 9},
		{2, 65534, 2, 65534}, // Serials have gone round.
		{60000, 0, 2, 65534},
		{2, 0, 2, 0},
	} {
		n := 2 * i
		c := put(uint64(n)+1, 0, ten, 3, s.metric, s.seq)
		wantErrno(t, "Add", x.Add(c), api.OK)
		wantErrno(t, "Add", x.Add(gone(uint64(n)+2, 0, ten)), api.OK)
		wantRows(t, x, n+1, has(c.R, s.bestSeq, s.best))
		wantRows(t, x, n+2, lacks(ten, s.bestSeq, s.best))
	}
}

// P20.2: the first route's mark is its own, be it however far.
func TestFirstMark(t *testing.T) {
	for _, seq := range []uint16{0, 1, 32767, 32768, 32769, 65535} {
		for _, metric := range []uint16{0, 1, 65534} {
			c := put(1, 0, ten, 0, metric, seq)
			wantRows(t, of(t, c), 1, has(c.R, seq, metric))
			// Nor does a change by which it is gone that was never there make a mark.
			d := put(2, 0, ten, 0, metric, seq)
			wantRows(t, of(t, gone(1, 0, ten), d), 2, has(d.R, seq, metric))
		}
	}
}

// P20.2: At tells the routes of all changes up to a time, and of that time, rising; those that are cut count.
func TestAt(t *testing.T) {
	x := of(t,
		put(1, 3, eleven, 1, 50, 5),
		put(2, 3, ten, 2, 60, 5),
		put(3, 5, eleven, 3, 70, 5),
		gone(4, 5, ten),
		put(5, 9, tenOne, 4, 80, 5))
	one := api.Route{P: eleven, Via: 1, Metric: 50, Seq: 5}
	two := api.Route{P: ten, Via: 2, Metric: 60, Seq: 5}
	three := api.Route{P: eleven, Via: 3, Metric: 70, Seq: 5}
	five := api.Route{P: tenOne, Via: 4, Metric: 80, Seq: 5}
	for range 2 {
		wantAt(t, x, 0)
		wantAt(t, x, 2)
		wantAt(t, x, 3, two, one)
		wantAt(t, x, 4, two, one)
		wantAt(t, x, 5, three)
		wantAt(t, x, 8, three)
		wantAt(t, x, 9, five, three)
		wantAt(t, x, math.MaxUint64, five, three)
		x.Sync()
	}
	// The horizon itself is told; and that all of its time, those too that aren't cut.
	x.Fold(1)
	wantAhead(t, x, 2)
	wantAhead(t, x, 0)
	wantAt(t, x, 3, two, one)
	x.Fold(3)
	wantAhead(t, x, 4)
	wantAt(t, x, 5, three)
	wantAt(t, x, 9, five, three)
	x.Fold(5)
	wantAhead(t, x, 8)
	wantAt(t, x, 9, five, three)
	wantAt(t, x, 10, five, three)
}

// P20.2: times may be any.
func TestAtAnyTime(t *testing.T) {
	times := []uint64{0, 1, 1<<63 - 1, 1 << 63, math.MaxUint64 - 1, math.MaxUint64}
	for cut := range len(times) + 1 {
		x := at(t, times...)
		x.Fold(cut)
		for i, time := range times {
			if i+1 < cut {
				wantAhead(t, x, time)
			} else {
				wantAt(t, x, time, api.Route{P: ten, Via: i, Metric: 9, Seq: 1})
			}
		}
	}
}

// P20.1, P20.2: of a nil Ideal ErrNone, ahead of all else, and nothing.
func TestNil(t *testing.T) {
	var x *Ideal
	for _, c := range append(wrongs(1, 0), put(1, 0, ten, 0, 0, 0), put(7, 0, ten, 0, 0, 0), api.Change{}) {
		wantErrno(t, "Add", x.Add(c), api.ErrNone)
	}
	for _, n := range []int{0, 1, -1, math.MinInt, math.MaxInt} {
		wantErrno(t, "Fold", x.Fold(n), api.ErrNone)
		for _, m := range []int{0, 1, -1, math.MinInt, math.MaxInt} {
			wantErrno(t, "Fell", x.Fell(n, m), api.ErrNone)
		}
		wantRows(t, x, n)
		if l, e := x.At(uint64(n)); e != api.ErrNone || len(l) != 0 {
			t.Errorf("At: %v, %d", l, e)
		}
	}
	x.Sync()
	wantCounts(t, x, 0, 0, 0)
	wantHorizon(t, x, 0)
	wantChanges(t, x)
}

// The rule on memory: what is answered may be appended to and written over; that changes nothing that is told later, nor what was told ahead.
func TestTold(t *testing.T) {
	x := of(t, put(1, 1, ten, 1, 1, 1), put(2, 2, eleven, 2, 2, 2), put(3, 3, tenOne, 3, 3, 3))
	x.Fold(1)
	changes, rows := x.Changes(), x.Rows(3)
	routes, _ := x.At(3)
	wantSame := func() {
		t.Helper()
		again, _ := x.At(3)
		if !slices.Equal(x.Changes(), changes) || !slices.Equal(x.Rows(3), rows) || !slices.Equal(again, routes) {
			t.Fatal("what was told has changed")
		}
	}
	clear(append(x.Changes()[:1], api.Change{}))
	clear(append(x.Rows(3)[:1], api.Row{}))
	again, _ := x.At(3)
	clear(append(again[:1], api.Route{}))
	wantSame()
	// What is told isn't what is added to later.
	short := append(x.Changes(), api.Change{No: 77})
	wantErrno(t, "Add", x.Add(gone(4, 4, ten)), api.OK)
	if short[2].No != 77 {
		t.Errorf("%v", short)
	}
	wantErrno(t, "Fell", x.Fell(4, 1), api.OK)
	wantChanges(t, x, append(slices.Clone(changes), gone(4, 4, ten))...)
	// Nor does a fall, and what comes behind it, change what was told.
	y := at(t, 1, 2, 3)
	told := y.Changes()
	y.Fell(1, 0)
	y.Add(put(2, 50, eleven, 9, 9, 9))
	wantChanges(t, at(t, 1, 2, 3), told...)
}
