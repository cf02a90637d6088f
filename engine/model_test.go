package engine

import (
	"math"
	"slices"
	"testing"

	"milestone/api"
	"milestone/link"
	"milestone/message"
)

// pair is a prefix and who tells of it.
type pair struct {
	p  api.Prefix
	by int
}

// word is what is told of a pair: a mark, and until when.
type word struct {
	m     api.Mark
	until uint64
}

// model is a router as the document tells it: all in maps, that are put in order when something is asked. (Links are layer 14's.)
type model struct {
	id     int
	homes  []api.Prefix
	seqs   map[api.Prefix]uint16
	marks  map[api.Prefix]api.Mark
	words  map[pair]word
	links  map[int]*link.Link
	ways   map[api.Prefix]api.Route
	lost   map[api.Prefix]bool
	asks   []message.Part
	due    bool
	hellos uint64
	counts Counts
}

// isRight goes through a prefix bit by bit.
func isRight(p api.Prefix) bool {
	for i := int(p.Len); i < 32; i++ {
		if p.Addr>>(31-i)&1 == 1 {
			return false
		}
	}
	return p.Len < 33
}

// isNewer counts on from one serial to the other one.
func isNewer(a, b uint16) bool {
	return int16(a-b) > 0
}

func isNearer(a, b api.Mark) bool {
	if a.Seq != b.Seq {
		return isNewer(a.Seq, b.Seq)
	}
	return a.Metric < b.Metric
}

// inOrder are the keys of a map of prefixes, the least one first.
func inOrder[T any](m map[api.Prefix]T) []api.Prefix {
	var keys []api.Prefix
	for p := range m {
		keys = append(keys, p)
	}
	slices.SortFunc(keys, func(p, q api.Prefix) int {
		return int(int64(p.Addr)<<8|int64(p.Len)) - int(int64(q.Addr)<<8|int64(q.Len))
	})
	return keys
}

func newModel(id int, own []api.Prefix, rows []api.Row) *model {
	m := &model{id: id, seqs: map[api.Prefix]uint16{}, marks: map[api.Prefix]api.Mark{}, words: map[pair]word{}, links: map[int]*link.Link{}, lost: map[api.Prefix]bool{}, due: true}
	for _, r := range rows {
		m.lower(r.P, r.M)
	}
	for _, p := range own {
		if _, there := m.seqs[p]; isRight(p) && !there && len(m.seqs) < 256 {
			m.homes = append(m.homes, p)
			m.seqs[p] = 1
			if mark, ok := m.marks[p]; ok {
				m.seqs[p] = mark.Seq + 1
			}
		}
	}
	return m
}

// lower tells whether there was room for a mark.
func (m *model) lower(p api.Prefix, x api.Mark) bool {
	old, ok := m.marks[p]
	if !isRight(p) || x.Metric == 65535 || !ok && len(m.marks) == 256 {
		return false
	}
	if !ok || isNearer(x, old) {
		m.marks[p] = x
	}
	return true
}

func (m *model) feasible(p api.Prefix, x api.Mark) bool {
	old, ok := m.marks[p]
	return !ok || isNearer(x, old)
}

// hear is handed a packet from another node.
func (m *model) hear(from int, parts []message.Part, strange int, now uint64, n *seen) {
	m.counts.Strange += strange
	if m.links[from] == nil {
		m.links[from] = link.New(now)
	}
	for _, x := range parts {
		own, isOwn := m.seqs[x.P]
		switch {
		case x.Kind == message.Hello:
			m.links[from].Hello(x.N, now)
		case x.Kind == message.Heard && x.Node == m.id:
			m.links[from].Heard(x.Metric, now)
		case x.Kind == message.Update && !isOwn:
			m.tell(pair{x.P, from}, x, now)
		case x.Kind == message.Request && isOwn:
			m.due = true
			if isNewer(x.Seq, own) {
				m.seqs[x.P]++
				n.raised++
			}
		case x.Kind == message.Request:
			way, has := m.ways[x.P]
			if has && !isNewer(x.Seq, way.Seq) && x.Seq-way.Seq != 32768 {
				m.due = true
				n.answered++
			} else if x.N > 0 {
				m.ask(x.P, x.Seq, x.N-1)
				n.further++
			}
		}
	}
}

func (m *model) tell(k pair, x message.Part, now uint64) {
	_, there := m.words[k]
	switch {
	case k.by < 0 || k.by > 15 || x.Node < 0 || x.Node > 15 || !isRight(k.p):
	case x.Metric == 65535:
		delete(m.words, k)
	case !there && len(m.words) == 256:
		m.counts.Full++
	default:
		m.words[k] = word{api.Mark{Seq: x.Seq, Metric: x.Metric}, now + 50}
	}
}

func (m *model) ask(p api.Prefix, seq uint16, n uint64) {
	for _, x := range m.asks {
		if x.P == p {
			return
		}
	}
	if len(m.asks) < 16 {
		m.asks = append(m.asks, request(p, seq, n))
	}
}

func (m *model) tick(now uint64) {
	for _, l := range m.links {
		l.Tick(now)
	}
	for k, w := range m.words {
		if w.until <= now || !m.links[k.by].Alive() {
			delete(m.words, k)
		}
	}
}

// best is the shortest way to a prefix, by the neighbors one by one; and whether something was told of it, and something feasible.
func (m *model) best(p api.Prefix) (way api.Route, has, some bool) {
	least := 65535
	for by := range 16 {
		w, ok := m.words[pair{p, by}]
		if !ok || !m.feasible(p, w.m) {
			continue
		}
		some = true
		if sum := int(w.m.Metric) + int(m.links[by].Cost()); sum < least {
			least, way, has = sum, api.Route{P: p, Via: by, Metric: uint16(sum), Seq: w.m.Seq}, true
		}
	}
	return way, has, some
}

func (m *model) choose(n *seen) {
	ways := map[api.Prefix]api.Route{}
	for _, p := range m.homes {
		if m.lower(p, api.Mark{Seq: m.seqs[p]}) {
			ways[p] = api.Route{P: p, Via: m.id, Seq: m.seqs[p]}
		} else {
			m.counts.NoRoom++
		}
	}
	told := map[api.Prefix]bool{}
	for k := range m.words {
		told[k.p] = true
	}
	var blocked []api.Prefix
	for _, p := range inOrder(told) {
		way, has, some := m.best(p)
		if !some {
			blocked = append(blocked, p)
		}
		if has && !m.lower(p, api.Mark{Seq: way.Seq, Metric: way.Metric}) {
			m.counts.NoRoom++
		} else if has {
			ways[p] = way
		}
	}
	m.replace(ways, n)
	for _, p := range blocked {
		m.ask(p, m.marks[p].Seq+1, 8)
		n.blocked++
	}
}

// replace holds new ways against the old ones, prefix by prefix.
func (m *model) replace(ways map[api.Prefix]api.Route, n *seen) {
	for p, way := range ways {
		if old, ok := m.ways[p]; !ok || old != way {
			m.due = true
			n.chosen++
		}
	}
	for p := range m.ways {
		if _, ok := ways[p]; !ok {
			m.due = true
			m.lost[p] = true
			n.lost++
		}
	}
	m.ways = ways
}

// packet is what goes out.
func (m *model) packet(now uint64, safe []api.Row, n *seen) []message.Part {
	var parts []message.Part
	if now%2 == 0 {
		parts = append(parts, hello(m.hellos))
		m.hellos++
		for _, x := range m.heard() {
			x.Metric = m.links[x.Node].Receives()
			parts = append(parts, x)
		}
	}
	if m.due || now%8 == 0 {
		for _, p := range inOrder(m.lost) {
			if _, ok := m.ways[p]; !ok {
				parts = append(parts, update(m.id, p, 0, 65535))
				n.gone++
			} else {
				n.back++
			}
		}
		for _, p := range inOrder(m.ways) {
			parts = append(parts, m.update(m.ways[p], safe, n))
		}
		m.due, m.lost = false, map[api.Prefix]bool{}
	}
	parts = append(parts, m.asks...)
	n.asked += len(m.asks)
	m.asks = nil
	return parts
}

func (m *model) update(way api.Route, safe []api.Row, n *seen) message.Part {
	for _, r := range safe {
		if r.P == way.P && !isNearer(api.Mark{Seq: way.Seq, Metric: way.Metric}, r.M) {
			n.safe++
			return update(m.id, way.P, way.Seq, way.Metric)
		}
	}
	n.endless++
	return update(m.id, way.P, way.Seq, 65535)
}

// heard is of each link what it costs, node by node.
func (m *model) heard() []message.Part {
	var parts []message.Part
	for node := -2; node < 20; node++ {
		if l := m.links[node]; l != nil {
			parts = append(parts, heard(node, l.Cost()))
		}
	}
	return parts
}

func (m *model) routes() []api.Route {
	var l []api.Route
	for _, p := range inOrder(m.ways) {
		l = append(l, m.ways[p])
	}
	return l
}

// chance tells numbers that look like any.
type chance uint32

func (x *chance) below(n int) int {
	*x = *x*1664525 + 1013904223
	return int(*x>>8) % n
}

// anyPrefix is one of a few, of many, or one that isn't Right.
func (x *chance) anyPrefix(many int) api.Prefix {
	switch k := x.below(40); {
	case k == 0:
		return []api.Prefix{wrong, {Len: 33}, {Addr: 1, Len: 31}, {Addr: math.MaxUint32, Len: 0}}[x.below(4)]
	case k < many:
		return nth(x.below(300))
	}
	return []api.Prefix{{}, home24, home8, far, farer, {Addr: math.MaxUint32, Len: 32}}[x.below(6)]
}

// anySeq lies around where serials go round; now and then it is any.
func (x *chance) anySeq() uint16 {
	if x.below(60) == 0 {
		return uint16(x.below(65536))
	}
	return uint16(65533 + x.below(7))
}

func (x *chance) anyMetric() uint16 {
	switch x.below(12) {
	case 0, 1:
		return 65535
	case 2:
		return uint16(x.below(65536))
	}
	return uint16(x.below(12) * 10)
}

// anyNode is mostly one of a few.
func (x *chance) anyNode() int {
	switch x.below(30) {
	case 0:
		return []int{-2, -1, 16, 19}[x.below(4)]
	case 1, 2, 3:
		return x.below(16)
	}
	return x.below(4)
}

func (x *chance) anyPart(id, many int) message.Part {
	switch x.below(10) {
	case 0, 1:
		return hello(uint64(x.below(9)))
	case 2, 3:
		return heard([]int{id, id, id, x.anyNode()}[x.below(4)], uint16(x.below(8)*10))
	case 4, 5:
		return request(x.anyPrefix(many), x.anySeq(), uint64(x.below(4)))
	case 6:
		if x.below(4) == 0 {
			return message.Part{Kind: byte(5 + x.below(251)*x.below(2)), Node: id, P: x.anyPrefix(many), Seq: x.anySeq(), N: 5}
		}
	}
	return update(x.anyNode(), x.anyPrefix(many), x.anySeq(), x.anyMetric())
}

func (x *chance) anyRows(n, many int) []api.Row {
	var rows []api.Row
	for range x.below(n + 1) {
		rows = append(rows, row(x.anyPrefix(many), x.anySeq(), x.anyMetric()))
	}
	return rows
}

// seen is how often what came.
type seen struct{ raised, answered, further, blocked, asked, chosen, lost, gone, back, safe, endless, full, noRoom, silent, oneself int }

// walk is an Engine and its model, told the same.
type walk struct {
	chance
	e    *Engine
	m    *model
	now  uint64
	many int
	seen
}

// begin makes an engine of some prefixes and rows; of many, when many come.
func (w *walk) begin(many int) {
	var own []api.Prefix
	for range w.below(4) + many*w.below(8) {
		own = append(own, w.anyPrefix(many))
	}
	rows := w.anyRows(3+many*10, many)
	id := w.below(16) * w.below(2)
	w.e, w.m = New(id, own, rows), newModel(id, own, rows)
	w.now, w.many = 0, many
}

// step lets a router hear some, and then do what a tick does, or a part of that.
func (w *walk) step(t *testing.T) {
	w.now += uint64(w.below(3))
	if w.below(40) == 0 {
		w.now += uint64(w.below(60))
	}
	for range w.below(4) {
		w.hear()
	}
	if w.below(8) > 0 {
		w.e.Tick(w.now)
		w.m.tick(w.now)
	}
	for range w.below(8) / 3 {
		w.choose(t)
	}
	if w.below(4) > 0 {
		w.tell(t)
	}
	if w.below(20) == 0 {
		w.e.Bad()
		w.m.counts.Bad++
	}
	wantLinks(t, w.e, w.m.heard()...)
	wantCounts(t, w.e, w.m.counts)
	wantChosen(t, w.e, w.m.routes()...)
}

func (w *walk) hear() {
	from, strange := w.anyNode(), w.below(10)/8
	var parts []message.Part
	for range w.below(5) + w.below(w.many+1) {
		parts = append(parts, w.anyPart(w.m.id, w.many))
	}
	w.e.Hear(message.Packet{From: from, Parts: parts}, strange, w.now)
	if from == w.m.id {
		w.oneself++
		return
	}
	w.m.hear(from, parts, strange, w.now, &w.seen)
}

func (w *walk) choose(t *testing.T) {
	w.m.choose(&w.seen)
	wantSelect(t, w.e, w.m.routes()...)
	w.wantNearer(t)
	p := w.anyPrefix(w.many)
	mark, has := w.e.Mark(p)
	if want, ok := w.m.marks[p]; mark != want || has != ok {
		t.Errorf("Mark(%v) = %v, %v, not %v, %v", p, mark, has, want, ok)
	}
}

// wantNearer asks that what is chosen is feasible: what its neighbor told is nearer than the router's mark, and the way isn't.
func (w *walk) wantNearer(t *testing.T) {
	t.Helper()
	for _, way := range w.e.Chosen() {
		mark, has := w.e.Mark(way.P)
		told := w.m.words[pair{way.P, way.Via}].m
		if !has || isNearer(api.Mark{Seq: way.Seq, Metric: way.Metric}, mark) || way.Via != w.m.id && !isNearer(told, mark) {
			t.Errorf("%v by what was told as %v, with the mark %v, %v", way, told, mark, has)
		}
	}
}

func (w *walk) tell(t *testing.T) {
	safe := w.anyRows(4, w.many)
	for _, way := range w.m.routes() {
		if w.below(2) == 0 {
			safe = append(safe, row(way.P, way.Seq-uint16(w.below(5)/4), uint16(w.below(int(way.Metric)+2))))
		}
	}
	want := w.m.packet(w.now, safe, &w.seen)
	if want == nil {
		w.silent++
	}
	wantTell(t, w.e, w.now, safe, want...)
}

// P17.1 to P17.4, P2: an engine tells what the document's words come to, whatever it hears.
func TestAsAModel(t *testing.T) {
	w := walk{chance: 17}
	for i := range 120 {
		w.begin([]int{0, 3, 10, 36}[i%4])
		for range 200 {
			w.step(t)
		}
		w.full += w.m.counts.Full
		w.noRoom += w.m.counts.NoRoom
		if t.Failed() {
			t.Fatalf("in walk %d", i)
		}
	}
	for _, n := range []int{w.raised, w.answered, w.further, w.blocked, w.asked, w.chosen, w.lost, w.gone, w.back, w.safe, w.endless, w.full, w.noRoom, w.silent, w.oneself} {
		if n < 50 {
			t.Fatalf("these came: %+v", w.seen)
		}
	}
}

// P1: every call ends and none panics, at any arguments, of engines that New didn't make too.
func TestEveryCallEnds(t *testing.T) {
	x := chance(18)
	times := []uint64{0, 1, 49, 50, 1 << 62, 1<<63 - 1, 1 << 63, math.MaxUint64 - 5, math.MaxUint64}
	numbers := []int{0, 1, 15, 16, -1, math.MaxInt, math.MinInt}
	for i, e := range []*Engine{nil, {}, New(0, nil, nil), New(15, some(300), nil), New(-1, some(3), nil), New(math.MaxInt, nil, x.anyRows(300, 40))} {
		for range 3000 {
			now := times[x.below(len(times))]
			var parts []message.Part
			for range x.below(6) {
				p := x.anyPart(x.below(17), 20)
				p.N = times[x.below(len(times))]
				p.Node = numbers[x.below(len(numbers))]
				p.P.Len = uint8(x.below(256))
				parts = append(parts, p, x.anyPart(1, 20))
			}
			e.Hear(message.Packet{From: numbers[x.below(len(numbers))], Parts: parts}, numbers[x.below(4)], now)
			if x.below(3) == 0 {
				e.Tick(now)
			}
			e.Select()
			e.Bad()
			e.Tell(now, x.anyRows(20, 20))
			e.Route(x.anyPrefix(20))
			e.Mark(x.anyPrefix(20))
			if len(e.Chosen()) > 256 || len(e.Links()) > 7 || e.Counts().Bad < 0 || i == 0 && e.Id() != 0 {
				t.Fatal(len(e.Chosen()), len(e.Links()), e.Counts(), e.Id())
			}
		}
	}
}
