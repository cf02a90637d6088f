package daemon

import (
	"bytes"
	"math"
	"slices"
	"testing"

	"milestone/api"
	"milestone/archive"
	"milestone/engine"
	"milestone/message"
	"milestone/shelf"
	"milestone/table"
)

var (
	home  = api.Prefix{Addr: 10 << 24, Len: 24}
	home2 = api.Prefix{Addr: 10<<24 | 128, Len: 25}
	far   = api.Prefix{Addr: 11 << 24, Len: 8}
	farer = api.Prefix{Addr: 12 << 24, Len: 8}
	wrong = api.Prefix{Addr: 1, Len: 8}
)

// plenty is room for all that a test writes.
const plenty = 1 << 20

// some is the archive of most tests: volumes are short, and whole tables stand behind a few changes.
var some = archive.Config{Most: 100, Every: 4}

// nth is one of many prefixes; a later one stands behind.
func nth(i int) api.Prefix {
	return api.Prefix{Addr: uint32(i+1) << 16, Len: 16}
}

// node is the Config of a node.
func node(id int, own ...api.Prefix) Config {
	return Config{Id: id, Own: own, A: some}
}

func by(no, time uint64, p api.Prefix, via int, seq, metric uint16) api.Change {
	return api.Change{No: no, Time: time, R: api.Route{P: p, Via: via, Metric: metric, Seq: seq}}
}

func gone(no, time uint64, p api.Prefix) api.Change {
	return api.Change{No: no, Time: time, Gone: true, R: api.Route{P: p}}
}

func hello(n uint64) message.Part {
	return message.Part{Kind: message.Hello, N: n}
}

func heard(node int, cost uint16) message.Part {
	return message.Part{Kind: message.Heard, Node: node, Metric: cost}
}

func update(node int, p api.Prefix, seq, metric uint16) message.Part {
	return message.Part{Kind: message.Update, Node: node, P: p, Seq: seq, Metric: metric}
}

// hear hands a packet to a daemon.
func hear(d *Daemon, from int, parts ...message.Part) {
	d.Hear(message.Encode(message.Packet{From: from, Parts: parts}))
}

// meet makes a node a neighbor to which the way costs so much.
func meet(d *Daemon, from int, cost uint16) {
	hear(d, from, hello(0), hello(1), heard(d.E.Id(), cost))
}

func wantOpen(t *testing.T, s *shelf.Shelf, c Config) *Daemon {
	t.Helper()
	d, e := Open(s, c)
	if e != api.OK || d == nil {
		t.Fatalf("Open = %v, %d", d, e)
	}
	return d
}

// fresh is a daemon with a shelf of its own.
func fresh(t *testing.T, id int, own ...api.Prefix) (*shelf.Shelf, *Daemon) {
	t.Helper()
	s := shelf.New(plenty)
	return s, wantOpen(t, s, node(id, own...))
}

// wantTick asks for the parts of what a tick tells; of none, for no bytes.
func wantTick(t *testing.T, d *Daemon, parts ...message.Part) {
	t.Helper()
	p, e := d.Tick()
	if e != api.OK {
		t.Fatalf("Tick = %d", e)
	}
	want := message.Encode(message.Packet{From: d.E.Id(), Parts: parts})
	if len(parts) == 0 {
		want = nil
	}
	if !bytes.Equal(p, want) {
		x, _, _ := message.Decode(p)
		t.Errorf("Tick = %x, %v; not %x, %v", p, x, want, parts)
	}
}

func wantTimes(t *testing.T, d *Daemon, now uint64, ticks, missed int) {
	t.Helper()
	if d.Now() != now || d.Ticks() != ticks || d.Missed() != missed {
		t.Errorf("Now, Ticks, Missed: %d, %d, %d; not %d, %d, %d", d.Now(), d.Ticks(), d.Missed(), now, ticks, missed)
	}
}

func wantChanges(t *testing.T, a *archive.Archive, l ...api.Change) {
	t.Helper()
	if got := a.Changes(); !slices.Equal(got, l) {
		t.Errorf("Changes = %v, not %v", got, l)
	}
}

// wantRows asks for a table with the rows to which changes come.
func wantRows(t *testing.T, x *table.Table, l ...api.Change) {
	t.Helper()
	if got, want := x.Rows(), rowsOf(l); !slices.Equal(got, want) {
		t.Errorf("Rows = %v, not %v", got, want)
	}
}

func wantBad(t *testing.T, what string, d *Daemon, n int) {
	t.Helper()
	if got := d.E.Counts(); got != (engine.Counts{Bad: n}) {
		t.Errorf("%s: %+v", what, got)
	}
}

// kept is a shelf on which an archive has some changes that are safe.
func kept(t *testing.T, l ...api.Change) *shelf.Shelf {
	t.Helper()
	s := shelf.New(plenty)
	if e := added(t, s, l...).Sync(); e != api.OK {
		t.Fatal(e)
	}
	return s
}

// added is a shelf's archive with some changes more that aren't safe yet.
func added(t *testing.T, s *shelf.Shelf, l ...api.Change) *archive.Archive {
	t.Helper()
	a, e := archive.Open(s, some)
	if e != api.OK {
		t.Fatal(e)
	}
	for _, c := range l {
		if e := a.Add(c); e != api.OK {
			t.Fatalf("Add(%v) = %d", c, e)
		}
	}
	return a
}

// full leaves a shelf no room; for a little, if that is asked.
func full(s *shelf.Shelf, more int) {
	s.Room(s.Used() + more)
}

// P18.1: the example of the chapter.
func TestExample(t *testing.T) {
	_, d := fresh(t, 1, home, home2)
	wantTick(t, d, update(1, home, 1, 0), update(1, home2, 1, 0))
	wantTick(t, d, hello(0))
}

// P18.1: a node is one of 0 to MaxNodes - 1. That is asked ahead of all else, and nothing is done to the shelf.
func TestOpenNode(t *testing.T) {
	for _, id := range []int{-1, api.MaxNodes, api.MaxNodes + 1, 255, 256, math.MaxInt, math.MinInt} {
		s := shelf.New(plenty)
		for _, x := range []*shelf.Shelf{s, nil} {
			if d, e := Open(x, node(id, home)); d != nil || e != api.ErrArg {
				t.Errorf("Open of %d = %v, %d", id, d, e)
			}
		}
		if s.Done() != 0 || s.List() != nil {
			t.Errorf("Open of %d did %d acts: %v", id, s.Done(), s.List())
		}
	}
	for _, id := range []int{0, 1, api.MaxNodes - 1} {
		_, d := fresh(t, id, home)
		if d.E.Id() != id {
			t.Errorf("%d is %d", id, d.E.Id())
		}
		wantTick(t, d, update(id, home, 1, 0))
	}
}

// P18.1: archive.Open's errors are Open's.
func TestOpenRefused(t *testing.T) {
	fallen := shelf.New(plenty)
	fallen.Arm(0)
	fallen.Create("a")
	spoilt := shelf.New(plenty)
	spoilt.Create("index")
	spoilt.Append("index", []byte("junk"))
	for _, x := range []struct {
		what string
		s    *shelf.Shelf
		a    archive.Config
		want api.Errno
	}{
		{"Most 0", shelf.New(plenty), archive.Config{Most: 0, Every: 1}, api.ErrArg},
		{"Every 0", shelf.New(plenty), archive.Config{Most: 1, Every: 0}, api.ErrArg},
		{"numbers below 0, and no shelf", nil, archive.Config{Most: -1, Every: -1}, api.ErrArg},
		{"no shelf", nil, some, api.ErrNone},
		{"a shelf that has fallen", fallen, some, api.ErrStop},
		{"a shelf that isn't right", spoilt, some, api.ErrForm},
		{"a shelf without room", shelf.New(0), some, api.ErrFull},
	} {
		if d, e := Open(x.s, Config{Id: 1, A: x.a}); d != nil || e != x.want {
			t.Errorf("%s: %v, %d, not %d", x.what, d, e, x.want)
		}
	}
}

// P18.1, P18.2: a node that has no history.
func TestOpenNew(t *testing.T) {
	_, d := fresh(t, 2, home)
	wantTimes(t, d, 0, 0, 0)
	wantRows(t, d.Safe())
	wantChanges(t, d.A)
	if no, time := d.Safe().Last(); no != 0 || time != 0 || d.E.Chosen() != nil || d.E.Links() != nil {
		t.Errorf("%d, %d, %v, %v", no, time, d.E.Chosen(), d.E.Links())
	}
}

// P18.1: a node with a history goes on behind it: its time, its marks, the serials of its own prefixes, and its table.
func TestOpenGoesOn(t *testing.T) {
	l := []api.Change{by(1, 5, home, 3, 7, 0), by(2, 5, far, 2, 4, 40), by(3, 9, farer, 2, 1, 60), gone(4, 9, farer)}
	for _, isBase := range []bool{false, true} {
		s := kept(t, l...)
		if isBase {
			added(t, s).Compact(9)
		}
		d := wantOpen(t, s, node(3, home2, home))
		wantTimes(t, d, 9, 0, 0)
		wantRows(t, d.Safe(), l...)
		for _, c := range l[:3] {
			if m, has := d.E.Mark(c.R.P); !has || m != (api.Mark{Seq: c.R.Seq, Metric: c.R.Metric}) {
				t.Errorf("Mark(%v) = %v, %v", c.R.P, m, has)
			}
		}
		wantTick(t, d, hello(0), update(3, home, 8, 0), update(3, home2, 1, 0))
		wantTimes(t, d, 10, 1, 0)
		news := []api.Change{gone(5, 10, far), by(6, 10, home, 3, 8, 0), by(7, 10, home2, 3, 1, 0)}
		wantRows(t, d.Safe(), append(l, news...)...)
		if isBase {
			wantChanges(t, d.A, news...)
		} else {
			wantChanges(t, d.A, append(l, news...)...)
		}
	}
}

// P18.1: the Config's numbers are the archive's.
func TestOpenConfig(t *testing.T) {
	for _, x := range []archive.Config{{Most: 1, Every: 1}, {Most: 1, Every: 1000}, {Most: 1000, Every: 2}} {
		s, twin := shelf.New(plenty), shelf.New(plenty)
		d := wantOpen(t, s, Config{Id: 1, Own: []api.Prefix{home, home2, far}, A: x})
		wantTick(t, d, update(1, home, 1, 0), update(1, home2, 1, 0), update(1, far, 1, 0))
		a, _ := archive.Open(twin, x)
		for _, c := range d.A.Changes() {
			a.Add(c)
		}
		a.Sync()
		if !slices.Equal(s.List(), twin.List()) || d.A.Spots() != a.Spots() || d.A.Bytes() != a.Bytes() {
			t.Errorf("%v: %v, %d; not %v, %d", x, s.List(), d.A.Spots(), twin.List(), a.Spots())
		}
	}
}

// P18.1: the table with which a node begins is safe, even if it wasn't when an archive was left.
func TestOpenIsSafe(t *testing.T) {
	s := shelf.New(plenty)
	l := []api.Change{by(1, 5, far, 2, 4, 40), by(2, 6, farer, 2, 4, 40)}
	added(t, s, l...)
	d := wantOpen(t, s, node(1))
	wantRows(t, d.Safe(), l...)
	s.Fall(0, 0)
	wantRows(t, wantOpen(t, s, node(1)).Safe(), l...)
}

// P18.1: what is opened at a shelf that falls in that is none.
func TestOpenFalls(t *testing.T) {
	for acts := 0; ; acts++ {
		s := shelf.New(plenty)
		added(t, s, by(1, 5, far, 2, 4, 40))
		s.Create("junk")
		s.Arm(acts)
		d, e := Open(s, node(1, home))
		if e == api.OK {
			if acts < 3 {
				t.Errorf("Open did %d acts", acts)
			}
			return
		}
		if d != nil || e != api.ErrStop || s.On() {
			t.Errorf("behind %d acts: %v, %d", acts, d, e)
		}
	}
}

// P18.1: what is handed to Open isn't changed, and may be used on.
func TestOpenOwn(t *testing.T) {
	own := []api.Prefix{home2, wrong, home, home2}
	_, d := fresh(t, 1, own...)
	if !slices.Equal(own, []api.Prefix{home2, wrong, home, home2}) {
		t.Error(own)
	}
	wantTick(t, d, update(1, home, 1, 0), update(1, home2, 1, 0))
}

// P18.1: what is right is heard by the engine, at the time that it is; and what is strange in it is counted.
func TestHear(t *testing.T) {
	s := kept(t, by(1, 100, home, 1, 1, 0))
	d := wantOpen(t, s, node(1))
	meet(d, 2, 30)
	hear(d, 2, update(2, far, 5, 10))
	if l := d.E.Links(); !slices.Equal(l, []message.Part{heard(2, 30)}) {
		t.Errorf("Links = %v", l)
	}
	wantBad(t, "right packets", d, 0)
	wantTick(t, d, update(1, far, 5, 40))
	// What was told at 100 holds until 150, if there are hellos.
	for now := uint64(102); now < 155; now++ {
		hear(d, 2, hello(now-100), heard(1, 30))
		d.Tick()
		if _, has := d.E.Route(far); has != (now < 150) || d.Now() != now {
			t.Errorf("at %d, %d: %v", now, d.Now(), has)
		}
	}
}

// P18.1: strange parts.
func TestHearStrange(t *testing.T) {
	_, d := fresh(t, 1)
	// Two parts of kind 9 (of one byte, and of none) stand around a hello.
	p := []byte{1, 2, 9, 1, 7, 1, 1, 5, 9, 0}
	d.Hear(withSum(p))
	if got := d.E.Counts(); got != (engine.Counts{Strange: 2}) || len(d.E.Links()) != 1 {
		t.Errorf("%+v, %v", got, d.E.Links())
	}
	// A packet of one's own isn't heard.
	p[1] = 1
	d.Hear(withSum(p))
	if got := d.E.Counts(); got != (engine.Counts{Strange: 2}) || len(d.E.Links()) != 1 {
		t.Errorf("%+v, %v", got, d.E.Links())
	}
}

// withSum are bytes with a packet's sum behind them.
func withSum(p []byte) []byte {
	sum := uint32(math.MaxUint32)
	for _, b := range p {
		sum ^= uint32(b)
		for range 8 {
			sum = sum>>1 ^ sum&1*0x82f63b78
		}
	}
	sum = ^sum
	return append(slices.Clone(p), byte(sum), byte(sum>>8), byte(sum>>16), byte(sum>>24))
}

// P18.1: what isn't right is Bad, and does nothing else.
func TestHearBad(t *testing.T) {
	right := message.Encode(message.Packet{From: 2, Parts: []message.Part{hello(0), update(2, far, 5, 10)}})
	long := []byte{1, 2}
	for range message.MostParts + 1 {
		long = append(long, 1, 1, 0)
	}
	spoilt := slices.Clone(right)
	spoilt[3] ^= 1
	for what, p := range map[string][]byte{
		"nil":           nil,
		"junk":          []byte("junk"),
		"short":         right[:5],
		"cut":           right[:len(right)-1],
		"spoilt":        spoilt,
		"version 2":     withSum([]byte{2, 2}),
		"no such node":  withSum([]byte{1, 16}),
		"no such bytes": withSum([]byte{1, 2, 1, 9, 0}),
		"long":          withSum(long),
	} {
		_, d := fresh(t, 1, home)
		d.Hear(p)
		wantBad(t, what, d, 1)
		d.Hear(p)
		wantBad(t, what, d, 2)
		if d.E.Links() != nil {
			t.Errorf("%s: %v", what, d.E.Links())
		}
		wantTimes(t, d, 0, 0, 0)
		wantTick(t, d, update(1, home, 1, 0))
		wantTick(t, d, hello(0))
	}
}

// P18.1: what was handed to Hear may be written over; nothing is written into it.
func TestHearMemory(t *testing.T) {
	_, d := fresh(t, 1)
	meet(d, 2, 30)
	p := message.Encode(message.Packet{From: 2, Parts: []message.Part{update(2, far, 5, 10)}})
	was := slices.Clone(p)
	d.Hear(p)
	if !bytes.Equal(p, was) {
		t.Errorf("%x, not %x", p, was)
	}
	clear(p)
	wantTick(t, d, update(1, far, 5, 40))
}

// P18.1: of a tick the engine's Tick is first: what holds no longer isn't chosen any more.
func TestTickFirst(t *testing.T) {
	_, d := fresh(t, 1)
	meet(d, 2, 30)
	hear(d, 2, update(2, far, 5, 10))
	wantTick(t, d, update(1, far, 5, 40))
	wantChanges(t, d.A, by(1, 1, far, 2, 5, 40))
	// Hellos are missed at 6 and at 12: then one of the last three is left, and there is no way.
	for range 10 {
		d.Tick()
	}
	wantChanges(t, d.A, by(1, 1, far, 2, 5, 40))
	wantTick(t, d, hello(5), heard(2, api.Endless), update(1, far, 0, api.Endless))
	wantTimes(t, d, 12, 12, 0)
	wantChanges(t, d.A, by(1, 1, far, 2, 5, 40), gone(2, 12, far))
}

// P18.1: what is gone goes into the archive first; numbers go on, times are the tick's.
func TestTickChanges(t *testing.T) {
	_, d := fresh(t, 1, farer)
	meet(d, 2, 30)
	hear(d, 2, update(2, far, 5, 10), update(2, home, 5, 20))
	d.Tick()
	l := []api.Change{by(1, 1, home, 2, 5, 50), by(2, 1, far, 2, 5, 40), by(3, 1, farer, 1, 1, 0)}
	wantChanges(t, d.A, l...)
	d.Tick()
	wantChanges(t, d.A, l...)
	hear(d, 2, update(2, far, 5, api.Endless), update(2, home, 6, 20), update(2, home2, 5, 20))
	d.Tick()
	l = append(l, gone(4, 3, far), by(5, 3, home, 2, 6, 50), by(6, 3, home2, 2, 5, 50))
	wantChanges(t, d.A, l...)
	wantRows(t, d.Safe(), l...)
	wantTimes(t, d, 3, 3, 0)
	if !slices.Equal(d.A.Now().Routes(), d.E.Chosen()) {
		t.Errorf("%v, not %v", d.A.Now().Routes(), d.E.Chosen())
	}
}

// P18.1: a tick that changes nothing does nothing to the shelf.
func TestTickNothing(t *testing.T) {
	s, d := fresh(t, 1, home)
	d.Tick()
	done := s.Done()
	for now := 2; now < 50; now++ {
		p, e := d.Tick()
		if e != api.OK || (p == nil) != (now%2 == 1) || p != nil && len(p) == 0 {
			t.Errorf("at %d: %x, %d", now, p, e)
		}
	}
	if s.Done() != done {
		t.Errorf("%d acts, not %d", s.Done(), done)
	}
	wantTimes(t, d, 49, 49, 0)
	wantChanges(t, d.A, by(1, 1, home, 1, 1, 0))
}

// P18.1: what went into the archive in a tick is safe behind it.
func TestTickIsSafe(t *testing.T) {
	s, d := fresh(t, 1, home)
	d.Tick()
	meet(d, 2, 30)
	hear(d, 2, update(2, far, 5, 10))
	d.Tick()
	l := []api.Change{by(1, 1, home, 1, 1, 0), by(2, 2, far, 2, 5, 40)}
	wantRows(t, d.Safe(), l...)
	s.Fall(0, 0)
	d = wantOpen(t, s, node(1, home))
	wantRows(t, d.Safe(), l...)
	wantTimes(t, d, 2, 0, 0)
}

// P18.1: a time behind which the archive is already isn't gone back to.
func TestTickBehindTime(t *testing.T) {
	_, d := fresh(t, 1, home)
	if e := d.A.Add(by(1, 70, far, 2, 1, 1)); e != api.OK {
		t.Fatal(e)
	}
	wantTick(t, d, update(1, home, 1, 0))
	wantChanges(t, d.A, by(1, 70, far, 2, 1, 1), gone(2, 70, far), by(3, 70, home, 1, 1, 0))
	wantTimes(t, d, 1, 1, 0)
}

// P18.1: a change that the table refuses is missed, and the next one has its number.
func TestTickRefusedAmidst(t *testing.T) {
	var l []api.Change
	for i := range api.MaxRoutes - 1 {
		l = append(l, by(uint64(i+1), 1, nth(i), 2, 1, 5))
	}
	first := api.Prefix{}
	c := node(1, first, nth(0), nth(254))
	c.A = archive.Config{Most: 1 << 16, Every: 1000}
	d := wantOpen(t, kept(t, l...), c)
	// One is new, and the engine has room for it; the archive hasn't, for it has a row of which the engine doesn't know.
	l = append(l, by(api.MaxRoutes, 1, nth(270), 2, 1, 5))
	if e := d.A.Add(l[len(l)-1]); e != api.OK {
		t.Fatal(e)
	}
	wantTick(t, d, hello(0), update(1, first, 1, api.Endless), update(1, nth(0), 2, 0), update(1, nth(254), 2, 0))
	for _, i := range append(counted(1, 254), 270) {
		l = append(l, gone(uint64(len(l)+1), 2, nth(i)))
	}
	l = append(l, by(uint64(len(l)+1), 2, nth(0), 1, 2, 0), by(uint64(len(l)+2), 2, nth(254), 1, 2, 0))
	wantChanges(t, d.A, l...)
	wantRows(t, d.Safe(), l...)
	wantTimes(t, d, 2, 1, 1)
	wantTick(t, d)
	wantTimes(t, d, 3, 2, 2)
	wantChanges(t, d.A, l...)
}

// counted are the numbers from one to ahead of another one.
func counted(from, to int) []int {
	var l []int
	for i := from; i < to; i++ {
		l = append(l, i)
	}
	return l
}

// P18.1, P18.2: a shelf without room: each change is missed, at each tick, and nothing is told but that there is no way.
func TestTickWithoutRoom(t *testing.T) {
	s, d := fresh(t, 1, home, home2)
	full(s, 0)
	wantTick(t, d, update(1, home, 1, api.Endless), update(1, home2, 1, api.Endless))
	wantTimes(t, d, 1, 1, 2)
	wantTick(t, d, hello(0))
	wantTimes(t, d, 2, 2, 4)
	wantChanges(t, d.A)
	wantRows(t, d.Safe())
	if len(d.E.Chosen()) != 2 || !d.A.Full() {
		t.Error(d.E.Chosen(), d.A.Full())
	}
}

// P18.1: when there is room again what was missed is kept, and told when all is told.
func TestTickRoomAgain(t *testing.T) {
	s, d := fresh(t, 1, home)
	d.Tick()
	full(s, 0)
	meet(d, 2, 30)
	hear(d, 2, update(2, far, 5, 10))
	wantTick(t, d, hello(0), heard(2, 96), update(1, home, 1, 0), update(1, far, 5, api.Endless))
	wantTimes(t, d, 2, 2, 1)
	s.Room(plenty)
	// It is full still, until something is folded.
	wantTick(t, d)
	wantTimes(t, d, 3, 3, 2)
	if n, e := d.A.Compact(1); n != 1 || e != api.OK {
		t.Fatal(n, e)
	}
	wantTick(t, d, hello(1), heard(2, 96))
	wantChanges(t, d.A, by(2, 4, far, 2, 5, 40))
	wantRows(t, d.Safe(), by(1, 1, home, 1, 1, 0), by(2, 4, far, 2, 5, 40))
	wantTimes(t, d, 4, 4, 2)
	wantTick(t, d)
	wantTick(t, d, hello(2), heard(2, 96))
	wantTick(t, d)
	wantTick(t, d, hello(3), heard(2, 96), update(1, home, 1, 0), update(1, far, 5, 40))
}

// P18.1, P18.3: of what is new some goes, and that is safe, and told; some doesn't.
func TestTickSomeRoom(t *testing.T) {
	parts := 0
	for room := range 60 {
		s, d := fresh(t, 1, home)
		d.Tick()
		meet(d, 2, 30)
		hear(d, 2, update(2, far, 5, 10), update(2, farer, 5, 10))
		full(s, room)
		p, e := d.Tick()
		x, _, _ := message.Decode(p)
		l := []api.Change{by(1, 1, home, 1, 1, 0), by(2, 2, far, 2, 5, 40), by(3, 2, farer, 2, 5, 40)}
		went := len(d.A.Changes())
		wantChanges(t, d.A, l[:went]...)
		wantRows(t, d.Safe(), l[:went]...)
		wantTimes(t, d, 2, 2, 3-went)
		want := []message.Part{hello(0), heard(2, 96), update(1, home, 1, 0), update(1, far, 5, 40), update(1, farer, 5, 40)}
		for i := went; i < 3; i++ {
			want[2+i].Metric = api.Endless
		}
		if e != api.OK || !slices.Equal(x.Parts, want) {
			t.Errorf("room for %d, of which %d went: %v, %d", room, went, x, e)
		}
		if went == 2 {
			parts++
		}
		s.Fall(0, 0)
		wantRows(t, wantOpen(t, s, node(1)).Safe(), l[:went]...)
	}
	if parts == 0 {
		t.Error("there was never room for one of two")
	}
}

// P18.1: at whatever act of a tick its shelf falls, nothing is told; and what is there behind it is what was, and some of what was new.
func TestTickFalls(t *testing.T) {
	for acts := 0; ; acts++ {
		s, d := fresh(t, 1, home)
		d.Tick()
		meet(d, 2, 30)
		for i := range 9 {
			hear(d, 2, update(2, nth(i), 5, 10))
		}
		s.Arm(acts)
		p, e := d.Tick()
		if e == api.OK {
			if acts < 20 || len(p) == 0 || len(d.A.Changes()) != 10 {
				t.Errorf("behind %d acts: %x, %d changes", acts, p, len(d.A.Changes()))
			}
			return
		}
		if p != nil || e != api.ErrStop || s.On() {
			t.Errorf("behind %d acts: %x, %d", acts, p, e)
		}
		if p, e := d.Tick(); p != nil || e != api.ErrStop {
			t.Errorf("and then: %x, %d", p, e)
		}
		s.Fall(acts%3, acts%7)
		d = wantOpen(t, s, node(1))
		if n := len(d.A.Changes()); n < 1 || n > 10 || d.Now() != min(uint64(n), 2) {
			t.Errorf("behind %d acts: %d changes, time %d", acts, n, d.Now())
		}
	}
}

// P18.1: a shelf that has fallen ahead of a tick: ErrStop, though nothing would be kept; and nothing has happened.
func TestTickOfFallen(t *testing.T) {
	s, d := fresh(t, 1, home)
	d.Tick()
	s.Arm(0)
	s.Names()
	for range 3 {
		if p, e := d.Tick(); p != nil || e != api.ErrStop {
			t.Errorf("Tick = %x, %d", p, e)
		}
	}
	wantTimes(t, d, 1, 1, 0)
	wantRows(t, d.Safe(), by(1, 1, home, 1, 1, 0))
}

// P18.1: great times; what lies behind the greatest one isn't promised, but that it ends.
func TestTickTimes(t *testing.T) {
	for _, time := range []uint64{1, 1 << 40, 1<<63 - 3} {
		s := kept(t, by(1, time, home, 1, 65535, 0))
		d := wantOpen(t, s, node(1, home))
		d.Tick()
		wantTimes(t, d, time+1, 1, 0)
		wantChanges(t, d.A, by(1, time, home, 1, 65535, 0), by(2, time+1, home, 1, 0, 0))
	}
	d := wantOpen(t, kept(t, by(1, math.MaxUint64, home, 1, 1, 0)), node(1, home))
	d.Tick()
	d.Tick()
}

// P18.1: of more parts than a packet may have those behind are left out, and it is right.
func TestTickMany(t *testing.T) {
	var own []api.Prefix
	for i := range api.MaxRoutes + 5 {
		own = append(own, nth(i))
	}
	c := node(1, own...)
	c.A = archive.Config{Most: 1 << 16, Every: 1000}
	s := kept(t, by(1, 1, far, 1, 1, 0))
	d := wantOpen(t, s, c)
	p, e := d.Tick()
	x, n, f := message.Decode(p)
	if e != api.OK || f != api.OK || n != 0 || len(x.Parts) != api.MaxRoutes {
		t.Errorf("%d, %d, %d, %d parts", e, f, n, len(x.Parts))
	}
	wantTimes(t, d, 2, 1, 0)
	if d.E.Counts() != (engine.Counts{NoRoom: 1}) || len(d.A.Now().Rows()) != api.MaxRoutes {
		t.Errorf("%+v, %d rows", d.E.Counts(), len(d.A.Now().Rows()))
	}
}

// P18.2: what Safe answers is a table of its own; so are the bytes of a tick.
func TestMemory(t *testing.T) {
	_, d := fresh(t, 1, home)
	p, _ := d.Tick()
	clear(p)
	if e := d.Safe().Apply(by(2, 5, far, 2, 1, 1)); e != api.OK {
		t.Fatal(e)
	}
	wantRows(t, d.Safe(), by(1, 1, home, 1, 1, 0))
	hear(d, 2, message.Part{Kind: message.Request, P: home, Seq: 9})
	wantTick(t, d, hello(0), heard(2, api.Endless), update(1, home, 2, 0))
}

// P18.2: what isn't safe yet isn't in Safe, and what others add beside a daemon isn't, until it is Synced in a tick.
func TestSafe(t *testing.T) {
	_, d := fresh(t, 1, home)
	d.Tick()
	l := []api.Change{by(1, 1, home, 1, 1, 0), by(2, 1, far, 2, 1, 1)}
	if e := d.A.Add(l[1]); e != api.OK {
		t.Fatal(e)
	}
	wantRows(t, d.Safe(), l[0])
	if no, time := d.Safe().Last(); no != 1 || time != 1 {
		t.Errorf("%d, %d", no, time)
	}
	d.Tick()
	wantRows(t, d.Safe(), append(l, gone(3, 2, far))...)
}

// P18.2: of a nil Daemon: ErrNone, nothing, 0.
func TestNil(t *testing.T) {
	var d *Daemon
	d.Hear(nil)
	d.Hear(message.Encode(message.Packet{From: 2, Parts: []message.Part{hello(0)}}))
	if p, e := d.Tick(); p != nil || e != api.ErrNone {
		t.Errorf("Tick = %x, %d", p, e)
	}
	wantTimes(t, d, 0, 0, 0)
	if d.Safe() != nil {
		t.Error(d.Safe())
	}
}

// P18.3: a way by a nearer mark than the one that is kept isn't told, while the archive is full; when it has fallen it knows no nearer one.
func TestTellsWhatIsKept(t *testing.T) {
	s, d := fresh(t, 1)
	meet(d, 2, 30)
	hear(d, 2, update(2, far, 5, 50))
	wantTick(t, d, update(1, far, 5, 80))
	full(s, 0)
	// A nearer one can't be kept.
	hear(d, 2, update(2, far, 5, 10))
	wantTick(t, d, hello(0), heard(2, 96), update(1, far, 5, api.Endless))
	// Nor can one of a newer serial, however far it is.
	hear(d, 2, update(2, far, 6, 500))
	wantTick(t, d, update(1, far, 6, api.Endless))
	wantTimes(t, d, 3, 3, 2)
	s.Fall(0, 0)
	d = wantOpen(t, s, node(1))
	if m, has := d.E.Mark(far); !has || m != (api.Mark{Seq: 5, Metric: 80}) {
		t.Errorf("Mark = %v, %v", m, has)
	}
}

// P18.3: what an archive had that wasn't safe when it was left is told of by nobody who would lose it. (Nothing is new, so nothing would be Synced in the tick.)
func TestTellsWhatIsSafe(t *testing.T) {
	s := shelf.New(plenty)
	added(t, s, by(1, 5, far, 2, 5, 40))
	d := wantOpen(t, s, node(1))
	meet(d, 2, 30)
	hear(d, 2, update(2, far, 5, 10))
	wantTick(t, d, hello(0), heard(2, 96), update(1, far, 5, 40))
	wantChanges(t, d.A, by(1, 5, far, 2, 5, 40))
	s.Fall(0, 0)
	d = wantOpen(t, s, node(1))
	if m, has := d.E.Mark(far); !has || m != (api.Mark{Seq: 5, Metric: 40}) {
		t.Errorf("Mark = %v, %v", m, has)
	}
}

// P18.1, P18.3: what somebody else added isn't safe, and isn't told, as long as nothing is Synced.
func TestTellsBySafe(t *testing.T) {
	s, d := fresh(t, 1)
	meet(d, 2, 30)
	hear(d, 2, update(2, far, 5, 50))
	wantTick(t, d, update(1, far, 5, 80))
	if e := d.A.Add(by(2, 1, far, 2, 5, 40)); e != api.OK {
		t.Fatal(e)
	}
	// That is the way that is chosen now, so that nothing goes into the archive.
	hear(d, 2, update(2, far, 5, 10))
	wantTick(t, d, hello(0), heard(2, 96), update(1, far, 5, api.Endless))
	wantChanges(t, d.A, by(1, 1, far, 2, 5, 80), by(2, 1, far, 2, 5, 40))
	s.Fall(0, 0)
	wantRows(t, wantOpen(t, s, node(1)).Safe(), by(1, 1, far, 2, 5, 80))
}
