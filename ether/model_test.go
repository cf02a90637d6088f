package ether

import (
	"math"
	"math/big"
	"slices"
	"strconv"
	"testing"

	"milestone/api"
)

// model is an ether as the document tells it: pairs that hear each other, the lesser one first, and packets under way, as texts.
type model struct {
	pairs map[[2]int]bool
	under []string
}

func pair(a, b int) [2]int {
	return [2]int{min(a, b), max(a, b)}
}

func (m *model) join(a, b int, on bool) api.Errno {
	if min(a, b) < 0 || max(a, b) >= 16 || a == b {
		return api.ErrArg
	}
	m.pairs[pair(a, b)] = on
	return api.OK
}

func (m *model) add(told string) {
	m.under = append(m.under, told)
	if len(m.under) > 1024 {
		m.under = m.under[1:]
	}
}

func (m *model) send(from int, p string) int {
	n := 0
	for to := range 16 {
		if m.pairs[pair(from, to)] {
			m.add(strconv.Itoa(from) + ">" + strconv.Itoa(to) + " " + p)
			n++
		}
	}
	return n
}

// place is which one a number means; there is one at least.
func (m *model) place(i int) int {
	n := big.NewInt(int64(i))
	if i < 0 {
		n.Add(n, new(big.Int).Lsh(big.NewInt(1), 64))
	}
	return int(n.Mod(n, big.NewInt(int64(len(m.under)))).Int64())
}

// lose tells the one that a number means, and takes it away.
func (m *model) lose(i int) string {
	at := m.place(i)
	told := m.under[at]
	m.under = slices.Concat(m.under[:at], m.under[at+1:])
	return told
}

// chance tells numbers that look like any.
type chance uint32

func (x *chance) below(n int) int {
	*x = *x*1664525 + 1013904223
	return int(*x>>8) % n
}

// anyNode is mostly a node.
func (x *chance) anyNode() int {
	if x.below(12) == 0 {
		return noNodes[x.below(len(noNodes))]
	}
	return x.below(api.MaxNodes)
}

// anyI is mostly the number of one under way, now and then any.
func (x *chance) anyI(n int) int {
	switch x.below(6) {
	case 0:
		return -x.below(3000)
	case 1:
		return []int{math.MinInt, math.MinInt + 1, math.MaxInt, math.MaxInt - 1, 1 << 40}[x.below(5)]
	case 2:
		return 0
	}
	return x.below(n + 2)
}

// seen is how often packets came of what was done, by kinds.
type seen struct{ joined, parted, refused, sent, unheard, above, taken, lost, doubled, none int }

// walk is an ether and its model, to which the same is done.
type walk struct {
	t    *testing.T
	x    *Ether
	m    *model
	seen *seen
}

func (w *walk) join(a, b int, on bool) {
	got, want := w.x.Join(a, b, on), w.m.join(a, b, on)
	if got != want {
		w.t.Fatalf("Join(%d, %d, %v): %d, not %d", a, b, on, got, want)
	}
	switch {
	case want != api.OK:
		w.seen.refused++
	case on:
		w.seen.joined++
	default:
		w.seen.parted++
	}
}

func (w *walk) send(from int, text string) {
	ahead := len(w.m.under)
	got, want := w.x.Send(from, []byte(text)), w.m.send(from, text)
	if got != want {
		w.t.Fatalf("Send(%d): %d, not %d", from, got, want)
	}
	switch {
	case ahead+want > 1024:
		w.seen.above++
	case want > 0:
		w.seen.sent++
	default:
		w.seen.unheard++
	}
}

// one does what is done to one packet.
func (w *walk) one(kind, i int) {
	if len(w.m.under) == 0 {
		wantNone(w.t, w.x)
		w.seen.none++
		return
	}
	var p Packet
	want, e := w.m.under[w.m.place(i)], api.OK
	told := want
	switch kind {
	case 0:
		p, e = w.x.Take(i)
		told = tell(p)
		w.m.lose(i)
		w.seen.taken++
	case 1:
		e = w.x.Lose(i)
		w.m.lose(i)
		w.seen.lost++
	case 2:
		e = w.x.Double(i)
		w.m.add(want)
		w.seen.doubled++
	case 3:
		p, e = w.x.Peek(i)
		told = tell(p)
	}
	if e != api.OK || told != want {
		w.t.Fatalf("kind %d, %d of %d: %q, %d; not %q", kind, i, len(w.m.under), told, e, want)
	}
}

// step does one of many things; the greater greed is, the more packets are sent.
func (w *walk) step(x *chance, greed int) {
	switch k := x.below(20); {
	case k < 3:
		w.join(x.anyNode(), x.anyNode(), x.below(3) > 0)
	case k < greed:
		w.send(x.anyNode(), "p"+strconv.Itoa(x.below(1000)))
	default:
		w.one(x.below(4), x.anyI(len(w.m.under)))
	}
}

func (w *walk) look() {
	w.t.Helper()
	for a := -1; a <= 16; a++ {
		for b := -1; b <= 16; b++ {
			if w.x.Hears(a, b) != w.m.pairs[pair(a, b)] {
				w.t.Fatalf("%d hears %d: %v", a, b, w.x.Hears(a, b))
			}
		}
	}
	wantUnder(w.t, w.x, w.m.under...)
}

// P19.1, P2: an ether tells what the document's words come to, whatever was done to it.
func TestAsAModel(t *testing.T) {
	x := chance(19)
	var seen seen
	for round := range 150 {
		w := &walk{t, &Ether{}, &model{pairs: map[[2]int]bool{}}, &seen}
		for range 1000 {
			w.step(&x, 4+round%15)
			if x.below(50) == 0 {
				w.look()
			}
		}
		w.look()
	}
	for _, n := range []int{seen.joined, seen.parted, seen.refused, seen.sent, seen.unheard, seen.above, seen.taken, seen.lost, seen.doubled, seen.none} {
		if n < 500 {
			t.Fatalf("these came: %+v", seen)
		}
	}
}

// P1: every call ends and none panics, at any numbers.
func TestEveryCallEnds(t *testing.T) {
	numbers := append([]int{0, 1, 15}, noNodes...)
	for _, x := range []*Ether{nil, {}, two(t, "a", "b")} {
		for _, a := range numbers {
			for _, b := range numbers {
				x.Join(a, b, true)
				x.Hears(a, b)
				x.Send(a, nil)
				x.Send(b, []byte("p"))
				x.Peek(a)
				x.Double(b)
				x.Take(b)
				x.Lose(a)
				x.Join(b, a, false)
				x.Len()
			}
		}
	}
}
