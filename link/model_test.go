package link

import (
	"math"
	"math/big"
	"testing"
)

// model is a link as the document tells it: which of the last 16 hellos came, the newest one last, and the number behind it, which may be any.
type model struct {
	came   []bool
	number *big.Int
	told   uint16
	until  uint64
	missed uint64
}

func newModel(now uint64) *model {
	return &model{came: make([]bool, 16), number: new(big.Int), told: 65535, missed: now + 6}
}

// next is whether the next hello came.
func (m *model) next(came bool) {
	m.came = append(m.came[1:len(m.came):len(m.came)], came)
	m.number.Add(m.number, big.NewInt(1))
}

func (m *model) hello(n, now uint64) {
	told := new(big.Int).SetUint64(n)
	far := new(big.Int).Add(m.number, big.NewInt(16))
	if told.Cmp(m.number) < 0 || told.Cmp(far) >= 0 || !m.alive() {
		m.came = make([]bool, 16)
		m.number.Set(told)
	}
	for m.number.Cmp(told) < 0 {
		m.next(false)
	}
	m.next(true)
	m.missed = now + 6
}

func (m *model) tick(now uint64) {
	for ; m.alive() && now >= m.missed; m.missed += 6 {
		m.next(false)
	}
	if now >= m.until {
		m.told = 65535
	}
}

func (m *model) heard(cost uint16, now uint64) {
	m.told, m.until = cost, now+20
	if cost == 0 {
		m.told = 1
	}
}

func (m *model) alive() bool {
	for _, came := range m.came {
		if came {
			return true
		}
	}
	return false
}

func (m *model) receives() uint16 {
	n := 0
	for _, came := range m.came[13:] {
		if came {
			n++
		}
	}
	if n < 2 {
		return 65535
	}
	return 96
}

func (m *model) cost() uint16 {
	if m.receives() == 65535 {
		return 65535
	}
	return m.told
}

// chance tells numbers that look like any.
type chance uint32

func (x *chance) below(n int) int {
	*x = *x*1664525 + 1013904223
	return int(*x>>8) % n
}

// of tells one of some numbers.
func (x *chance) of(l ...uint64) uint64 {
	return l[x.below(len(l))]
}

// anyHello is the number of one about the last one, mostly one of the next; or of any.
func (x *chance) anyHello(number *big.Int) uint64 {
	switch x.below(8) {
	case 0:
		return x.of(0, 1, 15, 16, 17, 1<<32-1, 1<<63, math.MaxUint64-2, math.MaxUint64)
	case 1:
		return number.Uint64() + uint64(x.below(40)) - 20
	case 2:
		return number.Uint64() + x.of(14, 15, 16, 17)
	}
	return number.Uint64() + uint64(x.below(3))
}

// anyTime is one not far behind another one, now and then one ahead of it, or far behind it.
func (x *chance) anyTime(now uint64) uint64 {
	switch x.below(16) {
	case 0:
		return now - min(now, uint64(x.below(30)))
	case 1:
		return now + x.of(6, 12, 19, 20, 21, 89, 90, 95, 96, 97, 200)
	}
	return now + uint64(x.below(4))
}

// told is how often a link was Alive, one that Receives, one with a Cost, and one of which no hello came.
type told struct{ alive, good, cost, dead int }

// walk tells a link and its model many things, alike, and asks after each of them whether they tell the same.
func (x *chance) walk(t *testing.T, now uint64, seen *told) {
	l, m := New(now), newModel(now)
	for step := range 60 {
		now = x.anyTime(now)
		switch x.below(6) {
		case 0:
			cost := uint16(x.of(0, 1, 2, 96, 300, 65534, 65535))
			l.Heard(cost, now)
			m.heard(cost, now)
		case 1, 2:
			l.Tick(now)
			m.tick(now)
		default:
			n := x.anyHello(m.number)
			l.Hello(n, now)
			m.hello(n, now)
		}
		for range 2 { // to ask changes nothing
			if l.Receives() != m.receives() || l.Cost() != m.cost() || l.Alive() != m.alive() {
				t.Fatalf("step %d: %d, %d, %v; not %d, %d, %v", step, l.Receives(), l.Cost(), l.Alive(), m.receives(), m.cost(), m.alive())
			}
		}
		seen.count(m)
	}
}

func (s *told) count(m *model) {
	if !m.alive() {
		s.dead++
		return
	}
	s.alive++
	if m.receives() == 96 {
		s.good++
	}
	if m.cost() != 65535 {
		s.cost++
	}
}

// P14.1, P14.2, P2: a link tells what the document's words come to, whatever it was told, at times from 0 on and up to 2^63.
func TestAsAModel(t *testing.T) {
	x := chance(14)
	var seen told
	for range 10000 {
		x.walk(t, 0, &seen)
		x.walk(t, uint64(x.below(1000)), &seen)
		x.walk(t, mostTime-20000, &seen)
	}
	if seen.alive < 100000 || seen.good < 50000 || seen.cost < 20000 || seen.dead < 20000 {
		t.Errorf("these came: %+v", seen)
	}
}

// P1: every call ends and none panics, at any numbers and times, those beyond what is promised among them.
func TestAnyNumbersAndTimes(t *testing.T) {
	edges := []uint64{0, 1, 6, 96, mostTime - 1, mostTime, mostTime + 1, math.MaxUint64 - 96, math.MaxUint64 - 6, math.MaxUint64 - 5, math.MaxUint64 - 1, math.MaxUint64}
	for _, a := range edges {
		for _, b := range edges {
			l := New(a)
			for _, n := range edges {
				l.Hello(n, b)
				l.Heard(uint16(n), a)
				l.Tick(b)
				l.Hello(a, n)
				l.Tick(n)
				l.Tick(math.MaxUint64)
				l.Receives()
				l.Cost()
				l.Alive()
			}
		}
	}
}
