package engine

import (
	"slices"
	"testing"

	"milestone/api"
	"milestone/message"
)

var (
	home24 = api.Prefix{Addr: 10 << 24, Len: 24}
	home8  = api.Prefix{Addr: 10 << 24, Len: 8}
	far    = api.Prefix{Addr: 11 << 24, Len: 8}
	farer  = api.Prefix{Addr: 12 << 24, Len: 8}
	wrong  = api.Prefix{Addr: 1, Len: 8}
)

// nth is one of many prefixes; a later one stands behind.
func nth(i int) api.Prefix {
	return api.Prefix{Addr: uint32(i+1) << 16, Len: 16}
}

// some are the first ones of these.
func some(n int) []api.Prefix {
	var l []api.Prefix
	for i := range n {
		l = append(l, nth(i))
	}
	return l
}

func row(p api.Prefix, seq, metric uint16) api.Row {
	return api.Row{P: p, M: api.Mark{Seq: seq, Metric: metric}}
}

func hello(n uint64) message.Part {
	return message.Part{Kind: message.Hello, N: n}
}

func heard(node int, cost uint16) message.Part {
	return message.Part{Kind: message.Heard, Node: node, Metric: cost}
}

func update(node int, p api.Prefix, seq, metric uint16) message.Part {
	return message.Part{Kind: message.Update, Node: node, P: p, Seq: seq, Metric: metric}
}

func request(p api.Prefix, seq uint16, n uint64) message.Part {
	return message.Part{Kind: message.Request, P: p, Seq: seq, N: n}
}

func hear(e *Engine, from int, now uint64, parts ...message.Part) {
	e.Hear(message.Packet{From: from, Parts: parts}, 0, now)
}

// meet makes a node a neighbor to which the way costs so much.
func meet(e *Engine, node int, cost uint16, now uint64) {
	hear(e, node, now, hello(0), hello(1), heard(e.Id(), cost))
}

// quiet is an engine that has selected and told what it had at first.
func quiet(t *testing.T, id int, own []api.Prefix, rows ...api.Row) *Engine {
	t.Helper()
	e := New(id, own, rows)
	e.Select()
	e.Tell(1, nil)
	wantTell(t, e, 1, nil)
	return e
}

// wantTell asks for the parts of what is told; of none, for nothing.
func wantTell(t *testing.T, e *Engine, now uint64, safe []api.Row, parts ...message.Part) {
	t.Helper()
	x, ok := e.Tell(now, safe)
	if ok != (len(parts) > 0) || !slices.Equal(x.Parts, parts) {
		t.Errorf("Tell(%d, %v) = %v, %v; not %v", now, safe, x, ok, parts)
	}
	if ok && x.From != e.Id() || !ok && x.From != 0 {
		t.Errorf("Tell(%d, %v) is from %d", now, safe, x.From)
	}
}

// wantSelect asks for the ways that are chosen, in all calls that tell them.
func wantSelect(t *testing.T, e *Engine, ways ...api.Route) {
	t.Helper()
	if got := e.Select(); !slices.Equal(got, ways) {
		t.Errorf("Select() = %v, not %v", got, ways)
	}
	wantChosen(t, e, ways...)
}

func wantChosen(t *testing.T, e *Engine, ways ...api.Route) {
	t.Helper()
	if got := e.Chosen(); !slices.Equal(got, ways) {
		t.Errorf("Chosen() = %v, not %v", got, ways)
	}
	for _, way := range ways {
		if got, ok := e.Route(way.P); !ok || got != way {
			t.Errorf("Route(%v) = %v, %v, not %v", way.P, got, ok, way)
		}
	}
	for _, p := range []api.Prefix{home24, home8, far, farer, wrong, {}} {
		is := func(way api.Route) bool { return way.P == p }
		if got, ok := e.Route(p); !slices.ContainsFunc(ways, is) && (ok || got != api.Route{}) {
			t.Errorf("Route(%v) = %v, %v, not none", p, got, ok)
		}
	}
}

func wantLinks(t *testing.T, e *Engine, parts ...message.Part) {
	t.Helper()
	if got := e.Links(); !slices.Equal(got, parts) {
		t.Errorf("Links() = %v, not %v", got, parts)
	}
}

func wantMark(t *testing.T, e *Engine, p api.Prefix, seq, metric uint16) {
	t.Helper()
	if got, ok := e.Mark(p); !ok || got != (api.Mark{Seq: seq, Metric: metric}) {
		t.Errorf("Mark(%v) = %v, %v, not (%d, %d)", p, got, ok, seq, metric)
	}
}

func wantNoMark(t *testing.T, e *Engine, p api.Prefix) {
	t.Helper()
	if got, ok := e.Mark(p); ok || got != (api.Mark{}) {
		t.Errorf("Mark(%v) = %v, %v, not none", p, got, ok)
	}
}

func wantCounts(t *testing.T, e *Engine, want Counts) {
	t.Helper()
	if got := e.Counts(); got != want {
		t.Errorf("Counts() = %+v, not %+v", got, want)
	}
}

// P17.1, P17.2: the example.
func TestExample(t *testing.T) {
	e := New(0, []api.Prefix{home24}, nil)
	wantSelect(t, e, api.Route{P: home24, Via: 0, Metric: 0, Seq: 1})
}

// P17.1: the numbers.
func TestNumbers(t *testing.T) {
	if Often != 2 || All != 8 || Way != 8 {
		t.Error(Often, All, Way)
	}
}

// P17.1: New: whose it is, its own prefixes with serials behind its marks, these, no links; and something is to be told.
func TestNew(t *testing.T) {
	for _, id := range []int{0, 7, 15} {
		e := New(id, []api.Prefix{far, home24, home8}, []api.Row{row(home24, 7, 0), row(home8, 65535, 300), row(farer, 3, 96)})
		if e.Id() != id {
			t.Error(e.Id(), id)
		}
		wantCounts(t, e, Counts{})
		wantLinks(t, e)
		wantChosen(t, e)
		wantMark(t, e, home24, 7, 0)
		wantMark(t, e, home8, 65535, 300)
		wantMark(t, e, farer, 3, 96)
		wantNoMark(t, e, far)
		wantSelect(t, e, api.Route{P: home8, Via: id, Seq: 0}, api.Route{P: home24, Via: id, Seq: 8}, api.Route{P: far, Via: id, Seq: 1})
		wantMark(t, e, home24, 8, 0)
		wantMark(t, e, home8, 0, 0)
		wantMark(t, e, far, 1, 0)
	}
}

// P17.1: its Source has the marks of rows as source.Of makes them: the nearest ones, not those that may not be.
func TestNewMarks(t *testing.T) {
	e := New(1, nil, []api.Row{row(far, 3, 96), row(wrong, 1, 1), row(far, 3, 50), row(farer, 1, 65535), row(far, 2, 10)})
	wantMark(t, e, far, 3, 50)
	wantNoMark(t, e, farer)
	wantNoMark(t, e, wrong)
	wantSelect(t, e)
}

// P17.1: of its own prefixes those that aren't Right are left out, and each is there once.
func TestNewLeavesOut(t *testing.T) {
	e := New(1, []api.Prefix{wrong, far, {Len: 33}, far, {}, home8, {}, {Addr: 1, Len: 31}}, nil)
	wantSelect(t, e, api.Route{P: api.Prefix{}, Via: 1, Seq: 1}, api.Route{P: home8, Via: 1, Seq: 1}, api.Route{P: far, Via: 1, Seq: 1})
	wantCounts(t, e, Counts{})
}

// P17.1: there are the first MaxRoutes of its own prefixes.
func TestNewMost(t *testing.T) {
	for _, n := range []int{api.MaxRoutes - 1, api.MaxRoutes, api.MaxRoutes + 1, 2 * api.MaxRoutes} {
		own := some(n)
		slices.Reverse(own)
		own = slices.Concat([]api.Prefix{wrong, own[0], own[0]}, own)
		e := New(1, own, nil)
		l := e.Select()
		if len(l) != min(n, api.MaxRoutes) || l[0].P != nth(n-len(l)) || l[len(l)-1].P != nth(n-1) {
			t.Errorf("of %d: %d", n, len(l))
		}
		wantCounts(t, e, Counts{})
	}
}

// P17.1: something is to be told at first, even if nothing is chosen yet.
func TestNewIsToBeTold(t *testing.T) {
	e := New(1, []api.Prefix{far}, nil)
	wantTell(t, e, 1, nil)
	e = New(1, []api.Prefix{far}, nil)
	e.Select()
	wantTell(t, e, 1, nil, update(1, far, 1, api.Endless))
	if !New(1, nil, nil).due {
		t.Error("nothing is to be told")
	}
}

// P17.1: of a packet from itself it hears nothing, not even what is strange.
func TestHearItself(t *testing.T) {
	for _, id := range []int{0, 3} {
		e := quiet(t, id, []api.Prefix{home8})
		e.Hear(message.Packet{From: id, Parts: []message.Part{hello(0), hello(1), heard(id, 96), update(id, far, 1, 1), request(home8, 2, 3), request(farer, 2, 3)}}, 4, 1)
		wantLinks(t, e)
		wantSelect(t, e, api.Route{P: home8, Via: id, Seq: 1})
		wantTell(t, e, 1, nil)
		wantCounts(t, e, Counts{})
	}
}

// P17.1: Strange is so many more, with each packet; Bad is one more.
func TestCounts(t *testing.T) {
	e := New(1, nil, nil)
	e.Hear(message.Packet{From: 2}, 3, 1)
	wantCounts(t, e, Counts{Strange: 3})
	e.Hear(message.Packet{From: 3, Parts: []message.Part{hello(0)}}, 4, 1)
	e.Hear(message.Packet{From: 2}, 0, 1)
	wantCounts(t, e, Counts{Strange: 7})
	e.Bad()
	wantCounts(t, e, Counts{Strange: 7, Bad: 1})
	e.Bad()
	wantCounts(t, e, Counts{Strange: 7, Bad: 2})
}

// P17.1: who sends a packet has a link from then on, of which nothing is known.
func TestHearMakesALink(t *testing.T) {
	e := quiet(t, 1, nil)
	hear(e, 9, 1)
	hear(e, 0, 1)
	hear(e, 9, 1)
	hear(e, 4, 1, hello(7))
	wantLinks(t, e, heard(0, api.Endless), heard(4, api.Endless), heard(9, api.Endless))
	wantTell(t, e, 2, nil, hello(0), heard(0, api.Endless), heard(4, api.Endless), heard(9, api.Endless))
}

// P17.1: a Hello is the link's of who sends it; a Heard of its id too, and of another one nobody's.
func TestHearHelloAndHeard(t *testing.T) {
	e := quiet(t, 1, nil)
	hear(e, 2, 1, hello(0), heard(1, 96), heard(0, 5), heard(3, 6), heard(2, 7))
	hear(e, 3, 1, hello(5), heard(1, 50))
	wantLinks(t, e, heard(2, api.Endless), heard(3, api.Endless))
	hear(e, 2, 3, hello(1))
	wantLinks(t, e, heard(2, 96), heard(3, api.Endless))
	wantTell(t, e, 4, nil, hello(0), heard(2, 96), heard(3, api.Endless))
	hear(e, 3, 3, hello(7))
	wantLinks(t, e, heard(2, 96), heard(3, 50))
	hear(e, 3, 3, hello(9))
	wantLinks(t, e, heard(2, 96), heard(3, 50))
	hear(e, 3, 3, heard(1, 0))
	wantLinks(t, e, heard(2, 96), heard(3, 1))
	hear(e, 2, 3, heard(1, 8), heard(1, 9))
	wantLinks(t, e, heard(2, 9), heard(3, 1))
}

// P17.1: what is heard is heard now.
func TestHearIsNow(t *testing.T) {
	e := quiet(t, 1, nil)
	meet(e, 2, 30, 100)
	hear(e, 2, 110, update(2, far, 1, 10))
	for _, now := range []uint64{106, 112, 118} {
		hear(e, 2, now, hello(2+(now-106)/6))
	}
	e.Tick(119)
	wantLinks(t, e, heard(2, 30))
	e.Tick(120)
	wantLinks(t, e, heard(2, api.Endless))
	for now := uint64(124); now < 160; now += 6 {
		e.Tick(now - 1)
		hear(e, 2, now, hello(5+(now-124)/6), heard(1, 30))
	}
	e.Tick(159)
	wantSelect(t, e, api.Route{P: far, Via: 2, Metric: 40, Seq: 1})
	e.Tick(160)
	wantSelect(t, e)
}

// P17.1: an Update is told to Routes, as its sender's; one of a prefix of its own isn't.
func TestHearUpdate(t *testing.T) {
	e := quiet(t, 1, []api.Prefix{home8})
	meet(e, 2, 96, 1)
	meet(e, 3, 96, 1)
	hear(e, 2, 1, update(5, far, 4, 50), update(2, home8, 9, 1), update(2, home24, 2, 60000))
	hear(e, 3, 1, update(3, far, 5, 51))
	own := api.Route{P: home8, Via: 1, Seq: 1}
	wantSelect(t, e, own, api.Route{P: home24, Via: 2, Metric: 60096, Seq: 2}, api.Route{P: far, Via: 2, Metric: 146, Seq: 4})
	hear(e, 2, 1, update(2, far, 4, api.Endless), update(2, home24, 2, 70))
	wantSelect(t, e, own, api.Route{P: home24, Via: 2, Metric: 166, Seq: 2}, api.Route{P: far, Via: 3, Metric: 147, Seq: 5})
	wantCounts(t, e, Counts{})
}

// P17.1: an Update that may not be tells nothing, and isn't counted.
func TestHearWrongUpdate(t *testing.T) {
	e := quiet(t, 1, nil)
	meet(e, 2, 96, 1)
	meet(e, 16, 96, 1)
	meet(e, -1, 96, 1)
	hear(e, 2, 1, update(2, wrong, 1, 1), update(16, far, 1, 1), update(-1, far, 1, 1))
	hear(e, 16, 1, update(2, far, 1, 1))
	hear(e, -1, 1, update(2, far, 1, 1))
	wantSelect(t, e)
	wantTell(t, e, 1, nil)
	wantCounts(t, e, Counts{})
}

// P17.1: what is told beyond MaxRoutes is counted, and nothing else is.
func TestHearFull(t *testing.T) {
	e := New(1, nil, nil)
	meet(e, 2, 96, 1)
	for _, p := range some(api.MaxRoutes) {
		hear(e, 2, 1, update(2, p, 1, 1))
	}
	wantCounts(t, e, Counts{})
	hear(e, 2, 1, update(2, far, 1, 1), update(2, farer, 1, 1))
	wantCounts(t, e, Counts{Full: 2})
	hear(e, 2, 1, update(2, nth(0), 1, 2), update(2, wrong, 1, 1), update(2, far, 1, api.Endless))
	wantCounts(t, e, Counts{Full: 2})
	hear(e, 2, 1, update(2, nth(0), 1, api.Endless), update(2, far, 1, 1), update(2, farer, 1, 1))
	wantCounts(t, e, Counts{Full: 3})
}

// P17.1: parts are heard one by one, as they stand.
func TestHearInOrder(t *testing.T) {
	e := quiet(t, 1, nil)
	hear(e, 2, 1, update(2, far, 1, 5), update(2, far, 1, api.Endless), update(2, farer, 1, api.Endless), update(2, farer, 1, 5), heard(1, 9), heard(1, 10), hello(4), hello(3), hello(4))
	wantSelect(t, e, api.Route{P: farer, Via: 2, Metric: 15, Seq: 1})
}

// P17.1: parts of other kinds are nothing.
func TestHearOtherKinds(t *testing.T) {
	e := quiet(t, 1, []api.Prefix{home8})
	meet(e, 2, 96, 1)
	for _, kind := range []byte{0, 5, 255} {
		hear(e, 2, 1, message.Part{Kind: kind, N: 7, Node: 1, P: far, Seq: 3, Metric: 5}, message.Part{Kind: kind, P: home8, Seq: 2})
	}
	wantLinks(t, e, heard(2, 96))
	wantSelect(t, e, api.Route{P: home8, Via: 1, Seq: 1})
	wantTell(t, e, 1, nil)
	wantCounts(t, e, Counts{})
}

// P17.1: a Request of a prefix of its own: its serial is one more, if a Newer one is asked for; and something is to be told.
func TestHearRequestOfOwn(t *testing.T) {
	cases := []struct{ asked, seq uint16 }{{8, 8}, {7, 8}, {0, 8}, {9, 9}, {10, 9}, {8 + 32767, 9}, {8 + 32768, 8}, {65535, 8}}
	for _, c := range cases {
		for _, n := range []uint64{0, 5} {
			e := quiet(t, 3, []api.Prefix{far, home8}, row(home8, 7, 0))
			hear(e, 2, 1, request(home8, c.asked, n))
			wantTell(t, e, 1, []api.Row{row(home8, 8, 0)}, update(3, home8, 8, 0), update(3, far, 1, api.Endless))
			wantSelect(t, e, api.Route{P: home8, Via: 3, Seq: c.seq}, api.Route{P: far, Via: 3, Seq: 1})
			wantMark(t, e, home8, c.seq, 0)
		}
	}
}

// P17.1: serials go round.
func TestOwnSerialGoesRound(t *testing.T) {
	e := New(3, []api.Prefix{home8}, []api.Row{row(home8, 65534, 0)})
	wantSelect(t, e, api.Route{P: home8, Via: 3, Seq: 65535})
	hear(e, 2, 1, request(home8, 3, 0))
	wantSelect(t, e, api.Route{P: home8, Via: 3, Seq: 0})
	hear(e, 2, 1, request(home8, 3, 0), request(home8, 3, 0), request(home8, 3, 0), request(home8, 3, 0))
	wantSelect(t, e, api.Route{P: home8, Via: 3, Seq: 3})
}

// P17.1: a Request of a prefix to which it has a way of that serial, or a Newer one: something is to be told.
func TestHearRequestOfChosen(t *testing.T) {
	cases := []struct {
		asked uint16
		tells bool
	}{{7, true}, {6, true}, {65535, true}, {8, false}, {20, false}, {7 + 32767, false}, {7 + 32768, false}, {7 + 32769, true}}
	for _, c := range cases {
		for _, n := range []uint64{0, 1, 5} {
			e := quiet(t, 3, nil)
			meet(e, 2, 4, 1)
			hear(e, 2, 1, update(2, far, 7, 5))
			wantSelect(t, e, api.Route{P: far, Via: 2, Metric: 9, Seq: 7})
			e.Tell(1, nil)
			hear(e, 4, 1, request(far, c.asked, n))
			switch {
			case c.tells:
				wantTell(t, e, 1, nil, update(3, far, 7, api.Endless))
			case n > 0:
				wantTell(t, e, 1, nil, request(far, c.asked, n-1))
			}
			wantTell(t, e, 1, nil)
		}
	}
}

// P17.1: a Request of another prefix is asked further, with N one less, if it isn't 0.
func TestHearRequestFurther(t *testing.T) {
	e := quiet(t, 3, []api.Prefix{home24})
	hear(e, 2, 1, update(2, farer, 5, 5))
	e.Select()
	hear(e, 2, 1, request(far, 9, 1), request(farer, 4, 64), request(home8, 0, 0))
	wantTell(t, e, 1, nil, request(far, 9, 0), request(farer, 4, 63))
	wantTell(t, e, 1, nil)
}

// P17.1: what is asked goes out with the next packet, of each prefix once, the first one.
func TestAskOnce(t *testing.T) {
	e := quiet(t, 3, nil)
	hear(e, 2, 1, request(farer, 9, 5), request(far, 2, 8))
	hear(e, 4, 1, request(far, 3, 9), request(farer, 9, 5))
	wantTell(t, e, 3, nil, request(farer, 9, 4), request(far, 2, 7))
	hear(e, 4, 3, request(far, 3, 9))
	wantTell(t, e, 3, nil, request(far, 3, 8))
	wantTell(t, e, 3, nil)
}

// P17.1: at most MaxNodes go out with a packet.
func TestAskMost(t *testing.T) {
	e := quiet(t, 3, nil)
	var want []message.Part
	for i, p := range some(api.MaxNodes + 2) {
		hear(e, 2, 1, request(p, uint16(i), 5))
		if i < api.MaxNodes {
			want = append(want, request(p, uint16(i), 4))
		}
	}
	wantTell(t, e, 1, nil, want...)
	hear(e, 2, 1, request(far, 1, 5))
	wantTell(t, e, 1, nil, request(far, 1, 4))
}

// P17.2: Tick: each link's, and what a neighbor told that isn't Alive is gone, at once.
func TestTickDrops(t *testing.T) {
	e := quiet(t, 1, nil)
	meet(e, 2, 9, 1)
	meet(e, 3, 9, 1)
	hear(e, 2, 60, update(2, far, 1, 1))
	hear(e, 3, 60, update(3, far, 1, 2), hello(2), hello(3), heard(1, 9))
	hear(e, 4, 60, update(4, far, 1, 1))
	e.Tick(60) // of 2 ten are missed; 4 never said hello
	wantTold(t, e, 2, 3)
	wantSelect(t, e, api.Route{P: far, Via: 3, Metric: 11, Seq: 1})
	hear(e, 4, 60, hello(0), hello(1), heard(1, 1), update(4, far, 1, 1))
	e.Tick(61)
	wantTold(t, e, 2, 3, 4)
	hear(e, 2, 95, update(2, far, 1, 1))
	e.Tick(96)
	wantTold(t, e, 2, 3, 4)
	e.Tick(97) // of 2 the last one of 16 is missed
	wantTold(t, e, 3, 4)
	wantLinks(t, e, heard(2, api.Endless), heard(3, api.Endless), heard(4, api.Endless))
}

// wantTold asks who tells of the one prefix of which anything is told.
func wantTold(t *testing.T, e *Engine, by ...int) {
	t.Helper()
	var got []int
	for _, told := range e.routes.All() {
		got = append(got, told.By)
	}
	if !slices.Equal(got, by) {
		t.Errorf("told by %v, not %v", got, by)
	}
}

// P17.2: Tick: what is too old is gone.
func TestTickOld(t *testing.T) {
	e := quiet(t, 1, nil)
	meet(e, 2, 9, 1)
	hear(e, 2, 1, update(2, far, 1, 1))
	hear(e, 2, 2, update(2, farer, 1, 1))
	for now := uint64(2); now <= 50; now++ {
		hear(e, 2, now, hello(now), heard(1, 9))
		e.Tick(now)
		wantSelect(t, e, api.Route{P: far, Via: 2, Metric: 10, Seq: 1}, api.Route{P: farer, Via: 2, Metric: 10, Seq: 1})
	}
	hear(e, 2, 51, hello(51))
	e.Tick(51)
	wantSelect(t, e, api.Route{P: farer, Via: 2, Metric: 10, Seq: 1})
}

// P17.2: Select: its own prefixes, and what Routes Select, by what the links cost now, rising.
func TestSelect(t *testing.T) {
	e := quiet(t, 15, []api.Prefix{farer, home8})
	meet(e, 0, 20, 1)
	meet(e, 14, 10, 1)
	hear(e, 0, 1, update(0, far, 3, 100), update(0, home24, 1, 1))
	hear(e, 14, 1, update(14, far, 3, 100))
	hear(e, 7, 1, update(7, far, 3, 1), heard(15, 1), hello(1))
	first, last := api.Route{P: home8, Via: 15, Seq: 1}, api.Route{P: farer, Via: 15, Seq: 1}
	second := api.Route{P: home24, Via: 0, Metric: 21, Seq: 1}
	wantSelect(t, e, first, second, api.Route{P: far, Via: 14, Metric: 110, Seq: 3}, last)
	hear(e, 0, 1, heard(15, 9))
	second.Metric = 10
	wantSelect(t, e, first, second, api.Route{P: far, Via: 0, Metric: 109, Seq: 3}, last)
	hear(e, 7, 1, hello(2))
	wantSelect(t, e, first, second, api.Route{P: far, Via: 7, Metric: 2, Seq: 3}, last)
}

// P17.2: Select, and nothing else, chooses.
func TestSelectChooses(t *testing.T) {
	e := New(1, []api.Prefix{home8}, nil)
	meet(e, 2, 9, 1)
	hear(e, 2, 1, update(2, far, 1, 1))
	e.Tick(2)
	wantChosen(t, e)
	wantNoMark(t, e, far)
	wantNoMark(t, e, home8)
	way := api.Route{P: far, Via: 2, Metric: 10, Seq: 1}
	own := api.Route{P: home8, Via: 1, Seq: 1}
	wantSelect(t, e, own, way)
	hear(e, 2, 3, update(2, far, 1, api.Endless), request(home8, 2, 0))
	e.Tick(3)
	e.Tell(3, nil)
	wantChosen(t, e, own, way)
	own.Seq = 2
	wantSelect(t, e, own)
}

// P17.2: each way that is chosen Lowers the Source.
func TestSelectLowers(t *testing.T) {
	e := quiet(t, 1, nil, row(farer, 1, 500))
	meet(e, 2, 9, 1)
	hear(e, 2, 1, update(2, far, 1, 91), update(2, farer, 1, 499))
	wantSelect(t, e, api.Route{P: far, Via: 2, Metric: 100, Seq: 1}, api.Route{P: farer, Via: 2, Metric: 508, Seq: 1})
	wantMark(t, e, far, 1, 100)
	wantMark(t, e, farer, 1, 500)
	hear(e, 2, 1, update(2, far, 1, 99), update(2, farer, 2, 1000))
	wantSelect(t, e, api.Route{P: far, Via: 2, Metric: 108, Seq: 1}, api.Route{P: farer, Via: 2, Metric: 1009, Seq: 2})
	wantMark(t, e, far, 1, 100)
	wantMark(t, e, farer, 2, 1009)
	hear(e, 2, 1, update(2, far, 1, 100), update(2, farer, 2, 1009))
	wantSelect(t, e)
	hear(e, 2, 1, update(2, far, 1, 5), update(2, farer, 1, 1))
	wantSelect(t, e, api.Route{P: far, Via: 2, Metric: 14, Seq: 1})
	wantMark(t, e, far, 1, 14)
}

// P17.2: what the Source refuses is no way, each time that it does.
func TestSelectNoRoom(t *testing.T) {
	var rows []api.Row
	for _, p := range some(api.MaxRoutes - 1) {
		rows = append(rows, row(p, 1, 100))
	}
	e := quiet(t, 1, nil, rows...)
	meet(e, 2, 9, 1)
	hear(e, 2, 1, update(2, far, 1, 1), update(2, farer, 1, 1), update(2, nth(0), 1, 1))
	known := api.Route{P: nth(0), Via: 2, Metric: 10, Seq: 1}
	way := api.Route{P: far, Via: 2, Metric: 10, Seq: 1}
	wantSelect(t, e, known, way)
	wantCounts(t, e, Counts{NoRoom: 1})
	wantNoMark(t, e, farer)
	wantSelect(t, e, known, way)
	wantCounts(t, e, Counts{NoRoom: 2})
	// What has no room isn't asked for.
	e.Tell(1, nil)
	e.Select()
	wantTell(t, e, 1, nil)
	// A mark stays, and so it has no room behind that.
	hear(e, 2, 1, update(2, far, 1, api.Endless))
	wantSelect(t, e, known)
	wantCounts(t, e, Counts{NoRoom: 4})
}

// P17.2: its own prefixes Lower the Source ahead of what is told, as they were handed in.
func TestSelectOwnFirst(t *testing.T) {
	var rows []api.Row
	for _, p := range some(api.MaxRoutes - 2) {
		rows = append(rows, row(p, 1, 100))
	}
	e := New(1, []api.Prefix{farer, home24, home8}, rows)
	meet(e, 2, 9, 1)
	hear(e, 2, 1, update(2, api.Prefix{}, 1, 1))
	wantSelect(t, e, api.Route{P: home24, Via: 1, Seq: 1}, api.Route{P: farer, Via: 1, Seq: 1})
	wantCounts(t, e, Counts{NoRoom: 2})
	hear(e, 2, 1, request(home8, 2, 5), update(2, home8, 1, 1))
	wantSelect(t, e, api.Route{P: home24, Via: 1, Seq: 1}, api.Route{P: farer, Via: 1, Seq: 1})
	wantCounts(t, e, Counts{NoRoom: 4})
}

// P17.2: something is to be told if what is chosen is unlike what was; else nothing is.
func TestSelectIsToBeTold(t *testing.T) {
	e := quiet(t, 1, nil)
	meet(e, 2, 9, 1)
	meet(e, 3, 9, 1)
	wantSelect(t, e)
	wantTell(t, e, 1, nil)
	steps := []struct {
		by          int
		seq, metric uint16
		way         api.Route
	}{
		{2, 1, 100, api.Route{P: far, Via: 2, Metric: 109, Seq: 1}},
		{2, 2, 100, api.Route{P: far, Via: 2, Metric: 109, Seq: 2}},
		{2, 2, 90, api.Route{P: far, Via: 2, Metric: 99, Seq: 2}},
		{2, 2, 95, api.Route{P: far, Via: 2, Metric: 104, Seq: 2}},
	}
	for _, s := range steps {
		hear(e, s.by, 1, update(s.by, far, s.seq, s.metric))
		wantTell(t, e, 1, nil)
		wantSelect(t, e, s.way)
		wantTell(t, e, 1, nil, update(1, far, s.way.Seq, api.Endless))
		hear(e, s.by, 1, update(s.by, far, s.seq, s.metric))
		wantSelect(t, e, s.way)
		wantTell(t, e, 1, nil)
	}
	hear(e, 3, 1, update(3, far, 2, 95))
	wantSelect(t, e, steps[3].way)
	wantTell(t, e, 1, nil)
	hear(e, 2, 1, update(2, far, 2, api.Endless))
	wantSelect(t, e, api.Route{P: far, Via: 3, Metric: 104, Seq: 2})
	wantTell(t, e, 1, nil, update(1, far, 2, api.Endless))
}

// P17.2, P17.3: what it has no more is lost, and that is told once, of those that aren't chosen, rising, ahead of the others.
func TestLost(t *testing.T) {
	e := quiet(t, 4, []api.Prefix{home24})
	meet(e, 2, 9, 1)
	hear(e, 2, 1, update(2, farer, 7, 1), update(2, far, 7, 1), update(2, home8, 7, 1))
	e.Select()
	e.Tell(1, nil)
	own := update(4, home24, 1, api.Endless)
	hear(e, 2, 1, update(2, farer, 7, api.Endless), update(2, home8, 7, api.Endless))
	e.Select()
	safe := []api.Row{row(home8, 7, 0), row(farer, 9, 0)}
	wantTell(t, e, 1, safe, update(4, home8, 0, api.Endless), update(4, farer, 0, api.Endless), own, update(4, far, 7, api.Endless))
	wantTell(t, e, 8, nil, hello(0), heard(2, 96), own, update(4, far, 7, api.Endless))
	// One after the other, and told together: one that comes again, one that goes twice.
	hear(e, 2, 1, update(2, home8, 7, 0), update(2, farer, 7, 0))
	e.Select()
	e.Tell(1, nil)
	hear(e, 2, 1, update(2, farer, 7, api.Endless))
	e.Select()
	hear(e, 2, 1, update(2, far, 7, api.Endless))
	e.Select()
	hear(e, 2, 1, update(2, farer, 8, 0), update(2, home8, 7, api.Endless))
	e.Select()
	hear(e, 2, 1, update(2, farer, 8, api.Endless), update(2, far, 8, 6))
	e.Select()
	wantTell(t, e, 1, nil, update(4, home8, 0, api.Endless), update(4, farer, 0, api.Endless), own, update(4, far, 8, api.Endless))
	wantTell(t, e, 1, nil)
}

// P17.2, P17.3: a loss that isn't told by now is told with the next packet that tells ways.
func TestLostIsToldAtAll(t *testing.T) {
	e := quiet(t, 4, nil)
	meet(e, 2, 9, 1)
	hear(e, 2, 1, update(2, far, 7, 1))
	e.Select()
	e.Tell(1, nil)
	hear(e, 2, 1, update(2, far, 7, api.Endless))
	e.Select()
	wantTell(t, e, 16, nil, hello(0), heard(2, 96), update(4, far, 0, api.Endless))
	wantTell(t, e, 24, nil, hello(1), heard(2, 96))
}

// P17.2: of each Blocked prefix, rising, it asks for what the Source Wants, N Way, at each Select.
func TestSelectAsks(t *testing.T) {
	e := quiet(t, 4, nil, row(farer, 65535, 10), row(far, 3, 10), row(home8, 3, 10), row(home24, 3, 10))
	meet(e, 2, 9, 1)
	meet(e, 3, 9, 1)
	hear(e, 2, 1, update(2, farer, 65535, 10), update(2, far, 3, 11), update(2, home8, 3, 9), update(2, home24, 3, 50))
	hear(e, 3, 1, update(3, far, 2, 1), update(3, home24, 3, 9))
	e.Select()
	e.Tell(1, nil)
	e.Select()
	wantTell(t, e, 1, nil, request(far, 4, 8), request(farer, 0, 8))
	wantTell(t, e, 1, nil)
	e.Select()
	e.Select()
	wantTell(t, e, 1, nil, request(far, 4, 8), request(farer, 0, 8))
	// What is feasible, but can't be come to, isn't asked for.
	e = quiet(t, 4, nil, row(far, 3, 10))
	hear(e, 2, 1, update(2, far, 3, 9))
	wantSelect(t, e)
	wantTell(t, e, 1, nil)
	// What somebody else asks for stands already.
	hear(e, 2, 1, update(2, far, 3, 10), request(far, 9, 3))
	e.Select()
	wantTell(t, e, 1, nil, request(far, 9, 2))
}

// P17.3: when now is a multiple of Often: a Hello, from 0 on, and of each link what it Receives.
func TestTellOften(t *testing.T) {
	e := quiet(t, 4, nil)
	wantTell(t, e, 3, nil)
	wantTell(t, e, 0, nil, hello(0))
	wantTell(t, e, 5, nil)
	wantTell(t, e, 2, nil, hello(1))
	wantTell(t, e, 2, nil, hello(2))
	hear(e, 9, 3, hello(0), hello(1))
	hear(e, 15, 3, hello(0), heard(4, 7))
	hear(e, 1, 3, hello(0), hello(1), heard(4, 7))
	wantTell(t, e, 3, nil)
	wantTell(t, e, 4, nil, hello(3), heard(1, 96), heard(9, 96), heard(15, api.Endless))
	wantLinks(t, e, heard(1, 7), heard(9, api.Endless), heard(15, api.Endless))
	e.Tick(15)
	wantTell(t, e, 1<<62, nil, hello(4), heard(1, api.Endless), heard(9, api.Endless), heard(15, api.Endless))
}

// P17.3: when now is a multiple of All, all that is chosen is told, though nothing is to be told.
func TestTellAll(t *testing.T) {
	e := quiet(t, 4, []api.Prefix{home8})
	safe := []api.Row{row(home8, 1, 0)}
	for now := range uint64(40) {
		var want []message.Part
		if now%2 == 0 {
			want = append(want, hello(now/2))
		}
		if now%8 == 0 {
			want = append(want, update(4, home8, 1, 0))
		}
		wantTell(t, e, now, safe, want...)
	}
}

// P17.3: a way is told with its Metric if its mark isn't Nearer than that of the row of its prefix; else Endless; with its Seq in both.
func TestTellSafe(t *testing.T) {
	cases := []struct {
		safe   []api.Row
		metric uint16
	}{
		{nil, api.Endless},
		{[]api.Row{row(far, 5, 100)}, 100},
		{[]api.Row{row(far, 5, 99)}, 100},
		{[]api.Row{row(far, 5, 0)}, 100},
		{[]api.Row{row(far, 5, 101)}, api.Endless},
		{[]api.Row{row(far, 6, 60000)}, 100},
		{[]api.Row{row(far, 4, 0)}, api.Endless},
		{[]api.Row{row(far, 4, 200)}, api.Endless},
		{[]api.Row{row(farer, 5, 0)}, api.Endless},
		{[]api.Row{row(home8, 5, 0), row(farer, 5, 0)}, api.Endless},
		{[]api.Row{row(home8, 4, 200), row(far, 5, 100), row(farer, 4, 200)}, 100},
		{[]api.Row{row(home8, 5, 0), row(far, 5, 101), row(farer, 5, 0)}, api.Endless},
		{[]api.Row{{P: far, Has: true, R: api.Route{P: far, Seq: 5, Metric: 1}, M: api.Mark{Seq: 5, Metric: 101}}}, api.Endless},
		{[]api.Row{{P: far, M: api.Mark{}}}, api.Endless},
	}
	for _, c := range cases {
		e := quiet(t, 4, nil)
		meet(e, 2, 40, 1)
		hear(e, 2, 1, update(3, far, 5, 60))
		wantSelect(t, e, api.Route{P: far, Via: 2, Metric: 100, Seq: 5})
		wantTell(t, e, 1, c.safe, update(4, far, 5, c.metric))
	}
}

// P17.3: the order of all parts; and that nothing is to be told twice.
func TestTellOrder(t *testing.T) {
	e := quiet(t, 4, []api.Prefix{farer}, row(home8, 3, 10))
	meet(e, 3, 9, 1)
	meet(e, 2, 9, 1)
	hear(e, 2, 1, update(2, far, 1, 1))
	e.Select()
	e.Tell(1, nil)
	hear(e, 2, 1, update(2, far, 1, api.Endless), update(2, home24, 1, 1), update(2, home8, 3, 10))
	hear(e, 3, 1, request(far, 2, 2))
	e.Select()
	wantTell(t, e, 2, []api.Row{row(farer, 1, 0)}, hello(0), heard(2, 96), heard(3, 96),
		update(4, far, 0, api.Endless), update(4, home24, 1, api.Endless), update(4, farer, 1, 0),
		request(far, 2, 1), request(home8, 4, 8))
	wantTell(t, e, 3, nil)
	wantTell(t, e, 4, nil, hello(1), heard(2, 96), heard(3, 96))
}

// P17.3: what Select chose last is what is told, whatever was heard since.
func TestTellChosen(t *testing.T) {
	e := New(4, []api.Prefix{home8}, nil)
	e.Select()
	hear(e, 2, 1, request(home8, 2, 0))
	wantTell(t, e, 1, []api.Row{row(home8, 1, 0)}, update(4, home8, 1, 0))
	e.Select()
	wantTell(t, e, 1, []api.Row{row(home8, 1, 0)}, update(4, home8, 2, api.Endless))
}

// P17.3: a packet has room for all that it may have.
func TestTellMost(t *testing.T) {
	e := New(0, some(api.MaxRoutes), nil)
	for node := 1; node < api.MaxNodes; node++ {
		hear(e, node, 1, request(api.Prefix{Addr: uint32(node), Len: 32}, 1, 2), request(api.Prefix{Addr: 99, Len: 32}, 1, 2))
	}
	e.Select()
	x, _ := e.Tell(8, nil)
	back, strange, err := message.Decode(message.Encode(x))
	if len(x.Parts) != 1+15+256+16 || strange != 0 || err != api.OK || !slices.Equal(back.Parts, x.Parts) || back.From != 0 {
		t.Error(len(x.Parts), strange, err)
	}
}

// P17.3: what a nil Engine answers.
func TestNil(t *testing.T) {
	var e *Engine
	e.Hear(message.Packet{From: 1, Parts: []message.Part{hello(0), update(1, far, 1, 1), request(far, 1, 1)}}, 1, 1)
	e.Bad()
	e.Tick(1)
	wantSelect(t, e)
	wantTell(t, e, 0, []api.Row{row(far, 1, 1)})
	wantLinks(t, e)
	wantNoMark(t, e, far)
	wantCounts(t, e, Counts{})
	if e.Id() != 0 {
		t.Error(e.Id())
	}
}

// P17.4: bytes that are no packet, strange parts, and packets from itself change nothing but counts.
func TestWhatIsNotHeard(t *testing.T) {
	lives := []*Engine{New(4, []api.Prefix{home8}, []api.Row{row(farer, 1, 1)}), New(4, []api.Prefix{home8}, []api.Row{row(farer, 1, 1)})}
	for now := uint64(1); now < 200; now++ {
		for i, e := range lives {
			parts := []message.Part{hello(now), heard(4, 10), update(2, far, uint16(now/20), uint16(now)), update(2, farer, 1, uint16(now)), request(home8, uint16(now/30), 3)}
			if now%100 < 60 {
				e.Hear(message.Packet{From: 2, Parts: parts}, 3*i, now)
			}
			if i == 1 {
				e.Bad()
				e.Hear(message.Packet{From: 4, Parts: parts}, 9, now)
			}
			e.Tick(now)
		}
		same := slices.Equal(lives[0].Select(), lives[1].Select()) && slices.Equal(lives[0].Links(), lives[1].Links())
		x, ok := lives[0].Tell(now, []api.Row{row(far, 4, 0)})
		y, too := lives[1].Tell(now, []api.Row{row(far, 4, 0)})
		if !same || ok != too || !slices.Equal(x.Parts, y.Parts) {
			t.Fatalf("at %d: %v, %v", now, x, y)
		}
	}
	wantCounts(t, lives[0], Counts{})
	wantCounts(t, lives[1], Counts{Bad: 199, Strange: 3 * 119})
}

// The rule of memory: nothing that is handed in is kept or changed, and what is answered is new.
func TestMemory(t *testing.T) {
	own := []api.Prefix{farer, home8}
	rows := []api.Row{row(home24, 1, 50), row(home8, 5, 0)}
	e := New(4, own, rows)
	parts := []message.Part{hello(0), hello(1), heard(4, 9), update(2, far, 1, 1), request(home24, 2, 5)}
	hear(e, 2, 1, parts...)
	if own[0] != farer || own[1] != home8 || rows[1] != row(home8, 5, 0) || parts[4] != request(home24, 2, 5) {
		t.Error("what was handed in is another one")
	}
	clear(own)
	clear(rows)
	clear(parts)
	want := []api.Route{{P: home8, Via: 4, Seq: 6}, {P: far, Via: 2, Metric: 10, Seq: 1}, {P: farer, Via: 4, Seq: 1}}
	wantSelect(t, e, want...)
	for _, l := range [][]api.Route{e.Select(), e.Chosen(), append(e.Select(), api.Route{}), append(e.Chosen()[:1], api.Route{})} {
		clear(l)
		wantChosen(t, e, want...)
	}
	clear(e.Links())
	wantLinks(t, e, heard(2, 9))
	safe := []api.Row{row(home8, 6, 0)}
	x, _ := e.Tell(1, safe)
	if len(x.Parts) != 4 || safe[0] != row(home8, 6, 0) {
		t.Error(x)
	}
	clear(x.Parts)
	wantTell(t, e, 8, safe, hello(0), heard(2, 96), update(4, home8, 6, 0), update(4, far, 1, api.Endless), update(4, farer, 1, api.Endless))
	hear(e, 2, 1, request(home24, 2, 5))
	x, _ = e.Tell(1, nil)
	hear(e, 2, 1, request(home8, 7, 5), request(api.Prefix{}, 1, 5))
	x.Parts = append(x.Parts[:0], hello(77))
	wantTell(t, e, 1, safe, update(4, home8, 6, 0), update(4, far, 1, api.Endless), update(4, farer, 1, api.Endless), request(api.Prefix{}, 1, 4))
}
