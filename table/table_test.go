package table

import (
	"math"
	"slices"
	"testing"

	"milestone/api"
)

// of is a prefix of an address's first bits.
func of(addr uint32, n int) api.Prefix {
	if n == 0 {
		return api.Prefix{}
	}
	return api.Prefix{Addr: addr >> (32 - n) << (32 - n), Len: uint8(n)}
}

var (
	all    = of(0, 0)
	ten    = of(0x0a000000, 8)
	tenOne = of(0x0a010000, 16)
	eleven = of(0x0b000000, 8)
)

// goneRoute is what is told of a prefix that has no route.
func goneRoute(p api.Prefix) api.Route {
	return api.Route{P: p}
}

// teller applies changes, each with the next number.
type teller struct {
	test *testing.T
	t    *Table
	time uint64
}

func tell(test *testing.T) *teller {
	return &teller{test: test, t: New()}
}

func (x *teller) apply(c api.Change) {
	x.test.Helper()
	no, _ := x.t.Last()
	c.No, c.Time = no+1, x.time
	if e := x.t.Apply(c); e != api.OK {
		x.test.Fatalf("Apply(%v) = %d", c, e)
	}
	if no, time := x.t.Last(); no != c.No || time != c.Time {
		x.test.Fatalf("Last behind %v: %d, %d", c, no, time)
	}
}

func (x *teller) put(p api.Prefix, via int, metric, seq uint16) {
	x.test.Helper()
	x.apply(api.Change{R: api.Route{P: p, Via: via, Metric: metric, Seq: seq}})
}

func (x *teller) gone(p api.Prefix) {
	x.test.Helper()
	x.apply(api.Change{Gone: true, R: goneRoute(p)})
}

func wantRow(test *testing.T, t *Table, want api.Row) {
	test.Helper()
	if row, ok := t.Row(want.P); !ok || row != want {
		test.Errorf("Row(%v) = %v, %v, not %v", want.P, row, ok, want)
	}
}

func wantNever(test *testing.T, t *Table, p api.Prefix) {
	test.Helper()
	if row, ok := t.Row(p); ok || row != (api.Row{}) {
		test.Errorf("Row(%v) = %v, %v", p, row, ok)
	}
}

// wantSame asks that two tables tell the same.
func wantSame(test *testing.T, a, b *Table) {
	test.Helper()
	aNo, aTime := a.Last()
	bNo, bTime := b.Last()
	if aNo != bNo || aTime != bTime || !slices.Equal(a.Rows(), b.Rows()) || !slices.Equal(a.Routes(), b.Routes()) {
		test.Errorf("%d, %d, %v is not %d, %d, %v", aNo, aTime, a.Rows(), bNo, bTime, b.Rows())
	}
}

// wantRefused asks that a change is refused with an error, and that nothing has changed.
func wantRefused(test *testing.T, t *Table, c api.Change, want api.Errno) {
	test.Helper()
	before := t.Copy()
	if e := t.Apply(c); e != want {
		test.Errorf("Apply(%v) = %d, not %d", c, e, want)
	}
	wantSame(test, t, before)
	if string(t.Encode()) != string(before.Encode()) {
		test.Errorf("Apply(%v) changed what is encoded", c)
	}
}

// P8.1: a new table has nothing.
func TestNew(test *testing.T) {
	t := New()
	no, time := t.Last()
	if t == nil || len(t.Rows()) != 0 || len(t.Routes()) != 0 || no != 0 || time != 0 || len(t.Diff(nil, 7)) != 0 {
		test.Errorf("New: %v, %v, %d, %d", t.Rows(), t.Routes(), no, time)
	}
	wantNever(test, t, all)
	wantNever(test, t, ten)
}

// P8.1: the example: a route, and gone again: no routes, one row.
func TestExample(test *testing.T) {
	x := tell(test)
	x.put(ten, 3, 96, 5)
	r := api.Route{P: ten, Via: 3, Metric: 96, Seq: 5}
	mark := api.Mark{Seq: 5, Metric: 96}
	wantRow(test, x.t, api.Row{P: ten, Has: true, R: r, M: mark})
	if l := x.t.Routes(); len(l) != 1 || l[0] != r {
		test.Errorf("Routes: %v", l)
	}
	x.gone(ten)
	wantRow(test, x.t, api.Row{P: ten, R: goneRoute(ten), M: mark})
	if len(x.t.Routes()) != 0 || len(x.t.Rows()) != 1 {
		test.Errorf("%v, %v", x.t.Routes(), x.t.Rows())
	}
}

// P8.1: a route stands in the place of its prefix's, and of no other's.
func TestRoutesOfPrefixes(test *testing.T) {
	x := tell(test)
	x.put(ten, 1, 10, 1)
	x.put(tenOne, 2, 20, 1)
	x.put(of(0x0a000000, 16), 3, 30, 1)
	x.put(all, 4, 40, 1)
	x.put(ten, 5, 50, 1)
	x.gone(tenOne)
	wantRow(test, x.t, api.Row{P: all, Has: true, R: api.Route{P: all, Via: 4, Metric: 40, Seq: 1}, M: api.Mark{Seq: 1, Metric: 40}})
	wantRow(test, x.t, api.Row{P: ten, Has: true, R: api.Route{P: ten, Via: 5, Metric: 50, Seq: 1}, M: api.Mark{Seq: 1, Metric: 10}})
	wantRow(test, x.t, api.Row{P: of(0x0a000000, 16), Has: true, R: api.Route{P: of(0x0a000000, 16), Via: 3, Metric: 30, Seq: 1}, M: api.Mark{Seq: 1, Metric: 30}})
	wantRow(test, x.t, api.Row{P: tenOne, R: goneRoute(tenOne), M: api.Mark{Seq: 1, Metric: 20}})
	for _, p := range []api.Prefix{eleven, of(0x0a000000, 9), of(0x0a000000, 7), of(0x0a000000, 32), {Addr: 0x0a000001, Len: 8}, {Len: 33}, {Addr: 0x0a000000, Len: 255}} {
		wantNever(test, x.t, p)
	}
}

// P8.1: the same route again is a change too, and so is a neighbor alone.
func TestSameAgain(test *testing.T) {
	x := tell(test)
	x.put(ten, 1, 10, 1)
	x.put(ten, 1, 10, 1)
	x.put(ten, 2, 10, 1)
	wantRow(test, x.t, api.Row{P: ten, Has: true, R: api.Route{P: ten, Via: 2, Metric: 10, Seq: 1}, M: api.Mark{Seq: 1, Metric: 10}})
	if no, _ := x.t.Last(); no != 3 {
		test.Errorf("Last: %d", no)
	}
}

// P8.1: the mark is the best one of all routes so far: of the newest serial, and of that of the least metric.
func TestMark(test *testing.T) {
	// Each is a serial and a metric.
	known := []struct {
		routes [][2]uint16
		want   [2]uint16
	}{
		// The first one is held against none: not against (0, 0), which would be nearer.
		{[][2]uint16{{0, 0}}, [2]uint16{0, 0}},
		{[][2]uint16{{0, 5}}, [2]uint16{0, 5}},
		{[][2]uint16{{0, 65534}}, [2]uint16{0, 65534}},
		{[][2]uint16{{40000, 7}}, [2]uint16{40000, 7}},
		{[][2]uint16{{65535, 7}}, [2]uint16{65535, 7}},
		// Of one serial the least metric.
		{[][2]uint16{{5, 96}, {5, 200}}, [2]uint16{5, 96}},
		{[][2]uint16{{5, 96}, {5, 95}}, [2]uint16{5, 95}},
		{[][2]uint16{{5, 96}, {5, 96}}, [2]uint16{5, 96}},
		{[][2]uint16{{5, 96}, {5, 200}, {5, 40}, {5, 60}}, [2]uint16{5, 40}},
		// A newer serial, however far; an older one never.
		{[][2]uint16{{5, 96}, {6, 65534}}, [2]uint16{6, 65534}},
		{[][2]uint16{{5, 96}, {4, 0}}, [2]uint16{5, 96}},
		{[][2]uint16{{5, 96}, {6, 300}, {5, 1}, {6, 299}}, [2]uint16{6, 299}},
		// Serials go round.
		{[][2]uint16{{65535, 3}, {0, 900}}, [2]uint16{0, 900}},
		{[][2]uint16{{0, 900}, {65535, 3}}, [2]uint16{0, 900}},
		{[][2]uint16{{65000, 3}, {200, 9}, {65001, 1}, {200, 8}}, [2]uint16{200, 8}},
		{[][2]uint16{{0, 9}, {32767, 10}}, [2]uint16{32767, 10}},
		{[][2]uint16{{0, 9}, {32768, 1}}, [2]uint16{0, 9}},
		{[][2]uint16{{32768, 9}, {0, 1}}, [2]uint16{32768, 9}},
		// In their order: each is Newer than the one ahead.
		{[][2]uint16{{0, 1}, {30000, 2}, {60000, 3}, {24000, 4}}, [2]uint16{24000, 4}},
	}
	for _, k := range known {
		x := tell(test)
		for i, m := range k.routes {
			x.put(ten, i%api.MaxNodes, m[1], m[0])
			x.put(eleven, 1, 77, 7)
		}
		last := k.routes[len(k.routes)-1]
		r := api.Route{P: ten, Via: (len(k.routes) - 1) % api.MaxNodes, Metric: last[1], Seq: last[0]}
		wantRow(test, x.t, api.Row{P: ten, Has: true, R: r, M: api.Mark{Seq: k.want[0], Metric: k.want[1]}})
		wantRow(test, x.t, api.Row{P: eleven, Has: true, R: api.Route{P: eleven, Via: 1, Metric: 77, Seq: 7}, M: api.Mark{Seq: 7, Metric: 77}})
	}
}

// P8.1: a mark stays when the route is gone, and the next route is held against it.
func TestMarkStays(test *testing.T) {
	x := tell(test)
	x.put(ten, 1, 96, 5)
	x.gone(ten)
	wantRow(test, x.t, api.Row{P: ten, R: goneRoute(ten), M: api.Mark{Seq: 5, Metric: 96}})
	x.put(ten, 2, 300, 5)
	wantRow(test, x.t, api.Row{P: ten, Has: true, R: api.Route{P: ten, Via: 2, Metric: 300, Seq: 5}, M: api.Mark{Seq: 5, Metric: 96}})
	x.gone(ten)
	x.put(ten, 3, 95, 5)
	wantRow(test, x.t, api.Row{P: ten, Has: true, R: api.Route{P: ten, Via: 3, Metric: 95, Seq: 5}, M: api.Mark{Seq: 5, Metric: 95}})
	x.gone(ten)
	wantRow(test, x.t, api.Row{P: ten, R: goneRoute(ten), M: api.Mark{Seq: 5, Metric: 95}})
}

// P8.1: a mark that isn't (0, 0) isn't made better by a prefix's being gone, of whatever serial.
func TestGoneHasNoMark(test *testing.T) {
	for _, m := range []api.Mark{{Seq: 0, Metric: 5}, {Seq: 65535, Metric: 5}, {Seq: 40000, Metric: 1}, {Seq: 0, Metric: 0}} {
		x := tell(test)
		x.put(ten, 1, m.Metric, m.Seq)
		x.gone(ten)
		wantRow(test, x.t, api.Row{P: ten, R: goneRoute(ten), M: m})
	}
}

// P8.1: change.Right's errors.
func TestApplyArg(test *testing.T) {
	x := tell(test)
	x.put(ten, 1, 10, 1)
	wrong := []api.Change{
		{R: api.Route{P: ten, Via: -1}},
		{R: api.Route{P: ten, Via: api.MaxNodes}},
		{R: api.Route{P: ten, Via: math.MaxInt}},
		{R: api.Route{P: ten, Via: math.MinInt}},
		{R: api.Route{P: ten, Metric: api.Endless}},
		{R: api.Route{P: api.Prefix{Addr: 0x0a000001, Len: 8}}},
		{R: api.Route{P: api.Prefix{Addr: 1}}},
		{R: api.Route{P: api.Prefix{Len: 33}}},
		{Gone: true, R: api.Route{P: api.Prefix{Addr: 0x0a000001, Len: 8}}},
		{Gone: true, R: api.Route{P: ten, Via: 1}},
		{Gone: true, R: api.Route{P: ten, Metric: 10}},
		{Gone: true, R: api.Route{P: ten, Seq: 1}},
	}
	for _, c := range wrong {
		c.No = 2
		wantRefused(test, x.t, c, api.ErrArg)
		// What isn't Right goes ahead of what doesn't follow.
		c.No = 9
		wantRefused(test, x.t, c, api.ErrArg)
		wantRefused(test, New(), c, api.ErrArg)
	}
	// At the edges.
	x.put(ten, 0, api.Endless-1, 65535)
	x.put(of(0xffffffff, 32), api.MaxNodes-1, 0, 0)
}

// P8.1: ErrOrder: not the next number, or a lesser time.
func TestApplyOrder(test *testing.T) {
	r := api.Route{P: ten, Via: 1, Metric: 10, Seq: 1}
	t := New()
	for _, no := range []uint64{0, 2, 3, math.MaxUint64} {
		wantRefused(test, t, api.Change{No: no, Time: 5, R: r}, api.ErrOrder)
	}
	// The first one has number 1, and any time.
	for _, time := range []uint64{0, 5, math.MaxUint64} {
		t := New()
		if e := t.Apply(api.Change{No: 1, Time: time, R: r}); e != api.OK {
			test.Errorf("the first one, at %d: %d", time, e)
		}
	}
	x := tell(test)
	x.time = 50
	x.put(ten, 1, 10, 1)
	x.put(eleven, 1, 10, 1)
	for _, no := range []uint64{0, 1, 2, 4, 5, math.MaxUint64} {
		wantRefused(test, x.t, api.Change{No: no, Time: 50, R: r}, api.ErrOrder)
		wantRefused(test, x.t, api.Change{No: no, Time: 50, Gone: true, R: goneRoute(ten)}, api.ErrOrder)
	}
	for _, time := range []uint64{0, 1, 49} {
		wantRefused(test, x.t, api.Change{No: 3, Time: time, R: r}, api.ErrOrder)
		wantRefused(test, x.t, api.Change{No: 3, Time: time, Gone: true, R: goneRoute(ten)}, api.ErrOrder)
	}
	// ErrOrder goes ahead of ErrNone.
	wantRefused(test, x.t, api.Change{No: 4, Time: 50, Gone: true, R: goneRoute(all)}, api.ErrOrder)
	wantRefused(test, x.t, api.Change{No: 3, Time: 49, Gone: true, R: goneRoute(all)}, api.ErrOrder)
	x.put(ten, 1, 10, 1)
	x.time = math.MaxUint64
	x.put(ten, 1, 10, 1)
	x.gone(ten)
}

// P8.1: ErrNone: what is gone wasn't there: it never was, or is gone already.
func TestApplyNone(test *testing.T) {
	x := tell(test)
	wantRefused(test, x.t, api.Change{No: 1, Gone: true, R: goneRoute(ten)}, api.ErrNone)
	x.put(ten, 1, 10, 1)
	for _, p := range []api.Prefix{all, tenOne, of(0x0a000000, 9), of(0x0a000000, 7), eleven} {
		wantRefused(test, x.t, api.Change{No: 2, Gone: true, R: goneRoute(p)}, api.ErrNone)
	}
	x.gone(ten)
	wantRefused(test, x.t, api.Change{No: 3, Gone: true, R: goneRoute(ten)}, api.ErrNone)
	x.put(ten, 1, 10, 1)
	x.gone(ten)
	wantRefused(test, x.t, api.Change{No: 5, Gone: true, R: goneRoute(ten)}, api.ErrNone)
}

// many is a prefix for each number.
func many(i int) api.Prefix {
	return of(uint32(i*37%1024)<<22, 10)
}

// full is a table with as many rows as there may be.
func full(test *testing.T) *teller {
	x := tell(test)
	for i := range api.MaxRoutes {
		x.put(many(i), i%api.MaxNodes, uint16(i), 1)
	}
	return x
}

// P8.1: MaxRoutes rows work; one more is ErrFull, and what is gone still has its row.
func TestApplyFull(test *testing.T) {
	x := full(test)
	if len(x.t.Rows()) != api.MaxRoutes || len(x.t.Routes()) != api.MaxRoutes {
		test.Fatalf("%d rows, %d routes", len(x.t.Rows()), len(x.t.Routes()))
	}
	next := func() uint64 {
		no, _ := x.t.Last()
		return no + 1
	}
	one := api.Route{P: many(api.MaxRoutes), Via: 1}
	wantRefused(test, x.t, api.Change{No: next(), R: one}, api.ErrFull)
	// What goes ahead of ErrFull.
	wantRefused(test, x.t, api.Change{No: next() + 1, R: one}, api.ErrOrder)
	wantRefused(test, x.t, api.Change{No: next(), R: api.Route{P: one.P, Metric: api.Endless}}, api.ErrArg)
	wantRefused(test, x.t, api.Change{No: next(), Gone: true, R: goneRoute(one.P)}, api.ErrNone)
	// What has a row may change.
	x.put(many(0), 9, 9, 9)
	x.put(many(api.MaxRoutes-1), 9, 9, 9)
	x.gone(many(5))
	wantRefused(test, x.t, api.Change{No: next(), R: one}, api.ErrFull)
	for i := range api.MaxRoutes {
		if i != 5 {
			x.gone(many(i))
		}
	}
	if len(x.t.Rows()) != api.MaxRoutes || len(x.t.Routes()) != 0 {
		test.Errorf("%d rows, %d routes", len(x.t.Rows()), len(x.t.Routes()))
	}
	wantRefused(test, x.t, api.Change{No: next(), R: one}, api.ErrFull)
	x.put(many(5), 1, 1, 1)
}

// P8.1: rows and routes rise by prefixes: by addresses, then the shorter one first.
func TestRising(test *testing.T) {
	rising := []api.Prefix{
		all, of(0, 1), of(0, 32), of(1, 32), of(2, 31), of(2, 32), of(0x0a000000, 7), ten, of(0x0a000000, 16), tenOne, eleven,
		of(0x7fffffff, 32), of(0x80000000, 1), of(0x80000000, 32), of(0xfffffffe, 31), of(0xfffffffe, 32), of(0xffffffff, 32),
	}
	for step := 1; step < len(rising); step++ {
		x := tell(test)
		for i := range rising {
			x.put(rising[i*step%len(rising)], 1, 1, 1)
		}
		x.gone(eleven)
		rows, routes := x.t.Rows(), x.t.Routes()
		if len(rows) != len(rising) || len(routes) != len(rising)-1 {
			test.Fatalf("%d rows, %d routes", len(rows), len(routes))
		}
		for i, p := range rising {
			if rows[i].P != p || rows[i].R.P != p || rows[i].Has != (p != eleven) {
				test.Errorf("row %d: %v", i, rows[i])
			}
		}
		left := slices.DeleteFunc(slices.Clone(rising), func(p api.Prefix) bool { return p == eleven })
		for i, p := range left {
			if routes[i].P != p {
				test.Errorf("route %d: %v", i, routes[i])
			}
		}
	}
}

// P8.1: first what is gone, then what is new, or unlike, each rising.
func TestDiffKnown(test *testing.T) {
	x := tell(test)
	x.time = 20
	x.put(all, 1, 1, 1)
	x.put(ten, 1, 10, 1)
	x.put(tenOne, 1, 10, 1)
	x.put(eleven, 1, 10, 1)
	x.gone(tenOne)
	twelve, last := of(0x0c000000, 8), of(0xffffffff, 32)
	x.put(twelve, 1, 10, 1)
	l := []api.Route{
		{P: all, Via: 1, Metric: 1, Seq: 1},
		{P: tenOne, Via: 1, Metric: 10, Seq: 1},
		{P: eleven, Via: 2, Metric: 10, Seq: 1},
		{P: last, Via: 3, Metric: 4, Seq: 5},
	}
	for _, k := range []struct{ time, want uint64 }{{0, 20}, {19, 20}, {20, 20}, {21, 21}, {1 << 62, 1 << 62}, {math.MaxUint64, math.MaxUint64}} {
		want := []api.Change{
			{No: 7, Time: k.want, Gone: true, R: goneRoute(ten)},
			{No: 8, Time: k.want, Gone: true, R: goneRoute(twelve)},
			// Gone ahead, it is new again, though its row is there, and is as its route was.
			{No: 9, Time: k.want, R: l[1]},
			{No: 10, Time: k.want, R: l[2]},
			{No: 11, Time: k.want, R: l[3]},
		}
		if d := x.t.Diff(l, k.time); !slices.Equal(d, want) {
			test.Errorf("Diff at %d: %v, not %v", k.time, d, want)
		}
	}
}

// P8.1: what is unlike by one thing alone is a change; what is like none.
func TestDiffUnlike(test *testing.T) {
	x := tell(test)
	r := api.Route{P: ten, Via: 1, Metric: 10, Seq: 1}
	x.put(ten, 1, 10, 1)
	if d := x.t.Diff([]api.Route{r}, 9); len(d) != 0 {
		test.Errorf("Diff of the same: %v", d)
	}
	for _, u := range []api.Route{{P: ten, Via: 0, Metric: 10, Seq: 1}, {P: ten, Via: 1, Metric: 11, Seq: 1}, {P: ten, Via: 1, Metric: 10, Seq: 2}, {P: ten}} {
		if d := x.t.Diff([]api.Route{u}, 9); !slices.Equal(d, []api.Change{{No: 2, Time: 9, R: u}}) {
			test.Errorf("Diff of %v: %v", u, d)
		}
	}
	for _, p := range []api.Prefix{all, tenOne, of(0x0a000000, 9), of(0x0a000000, 7)} {
		u := api.Route{P: p, Via: 1, Metric: 10, Seq: 1}
		want := []api.Change{{No: 2, Time: 9, Gone: true, R: goneRoute(ten)}, {No: 3, Time: 9, R: u}}
		if d := x.t.Diff([]api.Route{u}, 9); !slices.Equal(d, want) {
			test.Errorf("Diff of %v: %v", u, d)
		}
	}
	x.gone(ten)
	if d := x.t.Diff(nil, 9); len(d) != 0 {
		test.Errorf("Diff of none: %v", d)
	}
	// The empty route of a prefix is new where there is none, though its row tells the prefix alone.
	empty := goneRoute(ten)
	if d := x.t.Diff([]api.Route{empty}, 9); !slices.Equal(d, []api.Change{{No: 3, Time: 9, R: empty}}) {
		test.Errorf("Diff of an empty route: %v", d)
	}
}

// P8.1: of no list all is gone; of a new table all is new.
func TestDiffOfNone(test *testing.T) {
	x := full(test)
	no, _ := x.t.Last()
	d := x.t.Diff(nil, 3)
	if len(d) != api.MaxRoutes || !slices.Equal(d, x.t.Diff([]api.Route{}, 3)) {
		test.Fatalf("Diff of none: %d", len(d))
	}
	for i, r := range x.t.Routes() {
		if d[i] != (api.Change{No: no + uint64(i) + 1, Time: 3, Gone: true, R: goneRoute(r.P)}) {
			test.Errorf("Diff of none: %v", d[i])
		}
	}
	d = New().Diff(x.t.Routes(), 3)
	for i, r := range x.t.Routes() {
		if d[i] != (api.Change{No: uint64(i) + 1, Time: 3, R: r}) {
			test.Errorf("Diff of a new one: %v", d[i])
		}
	}
}

// P8.1: a copy is another one: what is told to one of them isn't told to the other one.
func TestCopy(test *testing.T) {
	x := tell(test)
	x.time = 4
	x.put(ten, 1, 10, 1)
	x.put(all, 1, 10, 1)
	x.gone(ten)
	y := &teller{test: test, t: x.t.Copy(), time: 4}
	wantSame(test, x.t, y.t)
	before := x.t.Copy()
	y.put(ten, 2, 5, 2)
	y.put(tenOne, 2, 5, 2)
	y.gone(all)
	wantSame(test, x.t, before)
	after := y.t.Copy()
	x.put(of(0x01000000, 8), 3, 3, 3)
	x.put(all, 3, 3, 3)
	wantSame(test, y.t, after)
	wantSame(test, New(), New().Copy())
}

// P8.1, the rule of memory: lists that are answered may be appended to, and stay as they are.
func TestMemory(test *testing.T) {
	x := tell(test)
	x.put(ten, 1, 10, 1)
	x.put(tenOne, 1, 10, 1)
	rows, routes, coins := x.t.Rows(), x.t.Routes(), x.t.Encode()
	oldRows, oldRoutes, oldCoins := slices.Clone(rows), slices.Clone(routes), string(coins)
	_ = append(rows, api.Row{P: eleven})
	_ = append(routes, api.Route{P: eleven})
	_ = append(coins, 1, 2, 3)
	x.put(eleven, 2, 20, 2)
	x.put(all, 2, 20, 2)
	x.gone(ten)
	if !slices.Equal(rows, oldRows) || !slices.Equal(routes, oldRoutes) || string(coins) != oldCoins {
		test.Errorf("%v, %v, %x", rows, routes, coins)
	}
	want := []api.Prefix{all, ten, tenOne, eleven}
	for i, row := range x.t.Rows() {
		if row.P != want[i] {
			test.Errorf("row %d: %v", i, row)
		}
	}
	l := []api.Route{{P: all, Via: 1}, {P: eleven, Via: 1}, {P: of(0xff000000, 8)}}
	old := slices.Clone(l)
	before := x.t.Copy()
	d := x.t.Diff(l[:2], 1)
	_ = append(d, api.Change{})
	if !slices.Equal(l, old) {
		test.Errorf("Diff wrote: %v", l)
	}
	wantSame(test, x.t, before)
}

// P8.1: of a nil table: ErrNone, nothing, whatever it is given.
func TestNil(test *testing.T) {
	var t *Table
	for _, c := range []api.Change{{}, {No: 1, R: api.Route{P: ten}}, {Gone: true, R: goneRoute(ten)}, {R: api.Route{Via: -1}}} {
		if e := t.Apply(c); e != api.ErrNone {
			test.Errorf("Apply(%v) = %d", c, e)
		}
	}
	wantNever(test, t, all)
	no, time := t.Last()
	if len(t.Rows()) != 0 || len(t.Routes()) != 0 || no != 0 || time != 0 || t.Copy() != nil || len(t.Encode()) != 0 || len(t.Diff([]api.Route{{P: ten}}, 9)) != 0 {
		test.Errorf("%v, %v, %d, %d, %v, %x", t.Rows(), t.Routes(), no, time, t.Copy(), t.Encode())
	}
}

// anyRoutes are routes of which most may not be.
func anyRoutes() []api.Route {
	var l []api.Route
	for _, p := range []api.Prefix{all, ten, {Addr: 0xffffffff}, {Addr: 0xffffffff, Len: 33}, {Len: 255}, {Addr: 0x0a010203, Len: 200}, of(0xffffffff, 32)} {
		for _, r := range []api.Route{{}, {Via: -1}, {Via: math.MinInt, Metric: 65535, Seq: 65535}, {Via: math.MaxInt, Metric: 1, Seq: 1}} {
			r.P = p
			l = append(l, r)
		}
	}
	return l
}

// P1: every call ends and none panics, at all arguments; a zero value too.
func TestAnything(test *testing.T) {
	l := anyRoutes()
	for _, t := range []*Table{nil, New(), {}, full(test).t} {
		for _, time := range []uint64{0, 1, math.MaxUint64} {
			for _, no := range []uint64{0, 1, 2, math.MaxUint64} {
				for _, r := range l {
					t.Apply(api.Change{No: no, Time: time, R: r})
					t.Apply(api.Change{No: no, Time: time, Gone: true, R: r})
					t.Row(r.P)
				}
			}
			// Not rising, and some twice.
			t.Diff(append(slices.Clone(l), l...), time)
			t.Rows()
			t.Routes()
			t.Last()
			Decode(t.Copy().Encode())
		}
	}
}

// P2: what was asked, or refused, ahead changes no answer.
func TestAnswersHangOnNothingElse(test *testing.T) {
	x, y := full(test), full(test)
	for _, r := range anyRoutes() {
		y.t.Apply(api.Change{No: 1, R: r})
		y.t.Row(r.P)
		y.t.Diff([]api.Route{r}, 1<<40)
		y.t.Copy().Apply(api.Change{No: api.MaxRoutes + 1, R: api.Route{P: many(3)}})
		Decode([]byte{1, 2})
	}
	wantSame(test, x.t, y.t)
	if string(x.t.Encode()) != string(y.t.Encode()) || !slices.Equal(x.t.Diff(nil, 3), y.t.Diff(nil, 3)) {
		test.Error("Encode, Diff")
	}
}
