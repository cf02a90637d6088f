package daemon

import (
	"bytes"
	"math"
	"slices"
	"testing"

	"milestone/api"
	"milestone/archive"
	"milestone/engine"
	"milestone/message"
	"milestone/shelf"
)

// isNearer counts on from one serial to the other one.
func isNearer(a, b api.Mark) bool {
	if a.Seq != b.Seq {
		return int16(a.Seq-b.Seq) > 0
	}
	return a.Metric < b.Metric
}

// inOrder are prefixes, the least one first.
func inOrder[T any](m map[api.Prefix]T) []api.Prefix {
	var keys []api.Prefix
	for p := range m {
		keys = append(keys, p)
	}
	slices.SortFunc(keys, func(p, q api.Prefix) int {
		return int(int64(p.Addr)<<8|int64(p.Len)) - int(int64(q.Addr)<<8|int64(q.Len))
	})
	return keys
}

// rowsOf is to what changes come.
func rowsOf(l []api.Change) []api.Row {
	rows := map[api.Prefix]api.Row{}
	for _, c := range l {
		m := api.Mark{Seq: c.R.Seq, Metric: c.R.Metric}
		old, there := rows[c.R.P]
		if c.Gone || there && !isNearer(m, old.M) {
			m = old.M
		}
		rows[c.R.P] = api.Row{P: c.R.P, Has: !c.Gone, R: c.R, M: m}
	}
	var list []api.Row
	for _, p := range inOrder(rows) {
		list = append(list, rows[p])
	}
	return list
}

// model is a daemon as the document tells it: an engine, and all changes from the first one on.
type model struct {
	c     Config
	e     *engine.Engine
	l     []api.Change
	cut   int // how many of these aren't told one by one
	safe  int
	now   uint64
	ticks int
	miss  int
	// told is the nearest mark that was ever told of a prefix.
	told map[api.Prefix]api.Mark
}

// begin: a daemon is opened, and these are all its changes.
func (m *model) begin(l []api.Change) {
	m.l, m.safe, m.now, m.ticks, m.miss = l, len(l), 0, 0, 0
	if len(l) > 0 {
		m.now = l[len(l)-1].Time
	}
	m.e = engine.New(m.c.Id, m.c.Own, rowsOf(l))
}

// news are the changes that lead from the routes that are kept to others, if all are taken.
func (m *model) news(ways []api.Route) []api.Change {
	had, has := map[api.Prefix]api.Route{}, map[api.Prefix]api.Route{}
	for _, r := range rowsOf(m.l) {
		if r.Has {
			had[r.P] = r.R
		}
	}
	for _, w := range ways {
		has[w.P] = w
	}
	var l []api.Change
	for _, p := range inOrder(had) {
		if _, ok := has[p]; !ok {
			l = append(l, api.Change{Gone: true, R: api.Route{P: p}})
		}
	}
	for _, p := range inOrder(has) {
		if old, ok := had[p]; !ok || old != has[p] {
			l = append(l, api.Change{R: has[p]})
		}
	}
	for i := range l {
		l[i].No = uint64(len(m.l) + i + 1)
		l[i].Time = m.now
		if n := len(m.l); n > 0 {
			l[i].Time = max(m.now, m.l[n-1].Time)
		}
	}
	return l
}

// tell is what goes out behind all that was chosen.
func (m *model) tell() []byte {
	x, ok := m.e.Tell(m.now, rowsOf(m.l[:m.safe]))
	if !ok {
		return nil
	}
	for _, u := range x.Parts {
		at := api.Mark{Seq: u.Seq, Metric: u.Metric}
		if old, has := m.told[u.P]; u.Kind == message.Update && u.Metric < api.Endless && (!has || isNearer(at, old)) {
			m.told[u.P] = at
		}
	}
	return message.Encode(x)
}

// chance tells numbers that look like any.
type chance uint32

func (x *chance) below(n int) int {
	*x = *x*1664525 + 1013904223
	return int(*x>>8) % n
}

// place is a node of a net: its shelf, its daemon, and its model.
type place struct {
	s *shelf.Shelf
	d *Daemon
	m *model
}

// mail is bytes that are under way to a node.
type mail struct {
	to int
	p  []byte
}

// seen is how often what came.
type seen struct{ ticks, silent, news, ways, missed, some, fell, fellTelling, lost, left, folded, again, junk, far, opens, refused int }

// net is nodes that hear one another, more or less.
type net struct {
	chance
	nodes []*place
	under []mail
	loss  int // of 10 packets so many are lost
	seen
}

// newNet makes nodes; each has two prefixes of its own, but the last one, that has none.
func newNet(t *testing.T, x chance, n int) *net {
	w := &net{chance: x}
	a := archive.Config{Most: 1 + w.below(300), Every: 1 + w.below(9)}
	for id := range n {
		c := Config{Id: id, Own: []api.Prefix{{Addr: 10<<24 | uint32(id)<<8, Len: 24}, {Addr: 10<<24 | uint32(id)<<8 | 128, Len: 25}}, A: a}
		if id == n-1 {
			c.Own = nil
		}
		at := &place{s: shelf.New(plenty), m: &model{c: c, told: map[api.Prefix]api.Mark{}}}
		at.d = wantOpen(t, at.s, c)
		at.m.begin(nil)
		w.nodes = append(w.nodes, at)
	}
	return w
}

// step does something to some node.
func (w *net) step(t *testing.T) {
	w.deliver()
	id := w.below(len(w.nodes))
	at := w.nodes[id]
	switch k := w.below(100); {
	case k < 70:
		w.tick(t, id)
	case k < 73:
		at.s.Arm(w.below(12))
	case k < 77:
		w.fall(t, at)
	case k < 82:
		at.s.Room([]int{plenty, plenty, at.s.Used(), at.s.Used() + w.below(60)}[w.below(4)])
	case k < 88:
		w.fold(t, at)
	case k < 92:
		w.openAgain(t, at)
	case k < 94:
		w.loss = w.below(8) * w.below(2)
	case k < 97:
		w.hearJunk(at)
	default:
		w.addBeside(at)
	}
	if !at.s.On() {
		w.fall(t, at)
	}
	w.wantLike(t, at)
}

// deliver: some of what is under way comes, in any order.
func (w *net) deliver() {
	for len(w.under) > 0 && w.below(8) > 0 {
		i := w.below(len(w.under))
		x := w.under[i]
		w.under = slices.Delete(w.under, i, i+1)
		if w.below(10) >= w.loss {
			w.nodes[x.to].hear(x.p)
		}
	}
}

// hear hands bytes to a daemon, and what they are to its model.
func (at *place) hear(p []byte) {
	at.d.Hear(p)
	if x, strange, e := message.Decode(p); e == api.OK {
		at.m.e.Hear(x, strange, at.m.now)
	} else {
		at.m.e.Bad()
	}
}

// hearJunk: bytes that nobody sent, and packets that aren't whole, or not as they were.
func (w *net) hearJunk(at *place) {
	p := message.Encode(message.Packet{From: w.below(16), Parts: []message.Part{hello(uint64(w.below(3))), update(1, far, uint16(w.below(3)), 7)}})
	switch w.below(4) {
	case 0:
		p = p[:w.below(len(p))]
	case 1:
		p[w.below(len(p))] ^= byte(1 + w.below(255))
	case 2:
		p = withSum([]byte{1, byte(w.below(16)), 9, 1, 7})
	}
	at.hear(p)
	w.junk++
}

// tick holds a tick against what the model makes of it.
func (w *net) tick(t *testing.T, id int) {
	at := w.nodes[id]
	m, wasFull, stood := at.m, at.d.A.Full(), at.s.On()
	m.now++
	m.ticks++
	m.e.Tick(m.now)
	want := m.news(m.e.Select())
	p, e := at.d.Tick()
	if e != api.OK {
		if e != api.ErrStop || p != nil || at.s.On() {
			t.Errorf("Tick = %x, %d", p, e)
		}
		if stood {
			m.l = append(slices.Clone(m.l), want...)
		}
		w.fellTelling++
		return
	}
	w.took(t, at, want, wasFull)
	if told := m.tell(); !bytes.Equal(p, told) || told == nil && p != nil {
		t.Errorf("Tick = %x, not %x", p, told)
	}
	w.ticks++
	if p == nil {
		w.silent++
		return
	}
	for to := range w.nodes {
		if to != id {
			w.under = append(w.under, mail{to, p})
		}
	}
}

// took: of changes the archive took the first ones, all of them if it isn't full; and if it took any all are safe.
func (w *net) took(t *testing.T, at *place, want []api.Change, wasFull bool) {
	t.Helper()
	m := at.m
	got := at.d.A.Changes()[len(m.l)-m.cut:]
	if len(got) > len(want) || !slices.Equal(got, want[:len(got)]) || len(got) < len(want) && !at.d.A.Full() || wasFull && len(got) > 0 {
		t.Fatalf("changes %v, of %v (full: %v)", got, want, wasFull)
	}
	m.l = append(slices.Clone(m.l), got...)
	m.miss += len(want) - len(got)
	w.news += len(got)
	w.missed += len(want) - len(got)
	w.ways += len(m.e.Chosen())
	if len(got) > 0 {
		m.safe = len(m.l)
		if len(got) < len(want) {
			w.some++
		}
	}
}

// fall: a shelf falls, and its daemon is opened anew.
func (w *net) fall(t *testing.T, at *place) {
	t.Helper()
	at.s.Fall(w.below(4), w.below(40)*w.below(2))
	w.fell++
	w.open(t, at)
}

// openAgain: a daemon is left, and another one opened in its place.
func (w *net) openAgain(t *testing.T, at *place) {
	w.left++
	if at.m.safe < len(at.m.l) {
		w.again++
	}
	at.m.safe = len(at.m.l)
	w.open(t, at)
}

// open: what was safe, at least, is there; and nothing that was told is nearer than what is known now.
func (w *net) open(t *testing.T, at *place) {
	t.Helper()
	if w.below(3) == 0 {
		at.s.Arm(w.below(6))
	}
	d, e := Open(at.s, at.m.c)
	for e == api.ErrStop && !at.s.On() && d == nil {
		w.refused++
		at.s.Fall(w.below(4), w.below(40))
		d, e = Open(at.s, at.m.c)
	}
	at.s.Arm(-1)
	if e != api.OK {
		t.Fatalf("Open = %d", e)
	}
	w.opens++
	at.d = d
	no, _ := d.A.Now().Last()
	n, m := int(no), at.m
	l := d.A.Changes()
	if n < m.safe || n > len(m.l) || len(l) > n || !slices.Equal(m.l[n-len(l):n], l) {
		t.Fatalf("%d changes up to %d, of %d, %d of them safe", len(l), n, len(m.l), m.safe)
	}
	if n < len(m.l) {
		w.lost++
	}
	m.cut = n - len(l)
	m.begin(slices.Clone(m.l[:n]))
	for p, told := range m.told {
		row, has := d.Safe().Row(p)
		if mark, ok := d.E.Mark(p); !has || !ok || isNearer(told, row.M) || mark != row.M {
			t.Fatalf("told %v of %v, but knows %v", told, p, row)
		}
	}
}

// fold: some of an archive goes into its base.
func (w *net) fold(t *testing.T, at *place) {
	m := at.m
	if !at.s.On() {
		return
	}
	time := m.now - min(uint64(w.below(20)), m.now)
	n, e := at.d.A.Compact(time)
	if w.below(3) == 0 {
		n2, e2 := at.d.A.Retain(time, w.below(900))
		n, e = n+n2, max(e, e2)
	}
	if !at.s.On() {
		return
	}
	if n > 0 {
		// What is folded is safe, and so is all behind it; but a daemon tells no more for that.
		w.folded++
	}
	m.cut += n
	if e != api.OK && e != api.ErrNone && e != api.ErrFull {
		t.Errorf("%d folded, %d", n, e)
	}
}

// addBeside: somebody else adds a change, and doesn't Sync it.
func (w *net) addBeside(at *place) {
	no, time := at.d.A.Now().Last()
	c := by(no+1, max(time, at.m.now), far, w.below(16), uint16(w.below(5)), uint16(w.below(300)))
	if at.d.A.Add(c) == api.OK {
		at.m.l = append(slices.Clone(at.m.l), c)
		w.far++
	} else if !at.s.On() {
		at.m.l = append(slices.Clone(at.m.l), c)
	}
}

// wantLike holds all that a daemon tells against its model.
func (w *net) wantLike(t *testing.T, at *place) {
	t.Helper()
	m := at.m
	wantTimes(t, at.d, m.now, m.ticks, m.miss)
	wantRows(t, at.d.Safe(), m.l[:m.safe]...)
	wantChanges(t, at.d.A, m.l[m.cut:]...)
	if !slices.Equal(at.d.E.Chosen(), m.e.Chosen()) || at.d.E.Counts() != m.e.Counts() || !slices.Equal(at.d.E.Links(), m.e.Links()) {
		t.Errorf("%v, %v, %+v; not %v, %v, %+v", at.d.E.Chosen(), at.d.E.Links(), at.d.E.Counts(), m.e.Chosen(), m.e.Links(), m.e.Counts())
	}
}

// P18.1 to P18.3, P2, P4: daemons of a net do what the document's words come to, whatever befalls them.
func TestAsAModel(t *testing.T) {
	var all seen
	for i := range 150 {
		w := newNet(t, chance(i), 2+i%3)
		for range 300 {
			w.step(t)
			if t.Failed() {
				t.Fatalf("in net %d", i)
			}
		}
		all = all.and(w.seen)
	}
	for _, n := range []int{all.ticks, all.silent, all.news, all.ways, all.missed, all.some, all.fell, all.fellTelling, all.lost, all.left, all.folded, all.again, all.junk, all.far, all.opens, all.refused} {
		if n < 20 {
			t.Fatalf("these came: %+v", all)
		}
	}
}

func (a seen) and(b seen) seen {
	return seen{a.ticks + b.ticks, a.silent + b.silent, a.news + b.news, a.ways + b.ways, a.missed + b.missed, a.some + b.some, a.fell + b.fell, a.fellTelling + b.fellTelling,
		a.lost + b.lost, a.left + b.left, a.folded + b.folded, a.again + b.again, a.junk + b.junk, a.far + b.far, a.opens + b.opens, a.refused + b.refused}
}

// P1: every call ends and none panics, at any arguments, of daemons that Open didn't make too, and of those whose shelf has fallen.
func TestEveryCallEnds(t *testing.T) {
	x := chance(18)
	numbers := []int{0, 1, 15, 16, -1, 100, math.MaxInt, math.MinInt}
	anyOf := func() int { return numbers[x.below(len(numbers))] }
	for i := range 3000 {
		s := shelf.New([]int{0, 40, 300, plenty, math.MaxInt, -1}[x.below(6)])
		c := Config{Id: anyOf(), A: archive.Config{Most: anyOf(), Every: anyOf()}}
		for range x.below(5) {
			c.Own = append(c.Own, []api.Prefix{home, home2, wrong, far, {Len: 200}, {}}[x.below(6)])
		}
		if x.below(2) == 0 {
			c.Id, c.A = x.below(16), some
		}
		d, e := Open([]*shelf.Shelf{s, s, s, nil, {}}[x.below(5)], c)
		if (d == nil) != (e != api.OK) {
			t.Fatal(d, e)
		}
		if i%50 == 0 {
			d = &Daemon{}
		}
		for range 20 {
			callAny(&x, s, d)
		}
	}
}

// callAny does something to a daemon or its shelf.
func callAny(x *chance, s *shelf.Shelf, d *Daemon) {
	switch x.below(8) {
	case 0:
		s.Arm(x.below(5))
	case 1:
		s.Fall(x.below(3), x.below(30))
	case 2:
		s.Room(s.Used() + x.below(40))
	case 3:
		for _, name := range s.List() {
			if x.below(6) == 0 {
				s.Delete(name)
			}
		}
	case 4:
		p := make([]byte, x.below(12))
		for i := range p {
			p[i] = byte(x.below(20))
		}
		d.Hear(p)
		d.Hear(withSum(p))
	case 5:
		d.Hear(message.Encode(message.Packet{From: x.below(16), Parts: []message.Part{hello(0), hello(1), heard(0, 9), update(1, far, 5, uint16(x.below(70)))}}))
	default:
		d.Tick()
	}
	d.Safe().Rows()
	d.Now()
	d.Ticks()
	d.Missed()
}
