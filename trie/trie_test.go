package trie

import (
	"maps"
	"math"
	"math/rand"
	"slices"
	"testing"

	"milestone/api"
)

// of is a prefix of an address's first bits.
func of(addr uint32, n int) api.Prefix {
	if n == 0 {
		return api.Prefix{}
	}
	return api.Prefix{Addr: addr >> (32 - n) << (32 - n), Len: uint8(n)}
}

// to is a route of a prefix, told from others by its neighbor.
func to(p api.Prefix, via int) api.Route {
	return api.Route{P: p, Via: via, Metric: uint16(via * 7), Seq: uint16(via * 11)}
}

var (
	all    = of(0, 0)
	ten    = of(0x0a000000, 8)
	tenOne = of(0x0a010000, 16)
	tenTwo = of(0x0a020000, 16)
	lone   = of(0x0a010203, 32)
)

// byPrefix: by addresses, then the shorter one first.
func byPrefix(a, b api.Prefix) int {
	return int(int64(a.Addr)<<6|int64(a.Len)) - int(int64(b.Addr)<<6|int64(b.Len))
}

// places is how many places there are from one on; of them each must be of use.
func places(test *testing.T, at *place) int {
	test.Helper()
	if at == nil {
		return 0
	}
	n := 1
	for _, way := range at.ways {
		n += places(test, way)
	}
	if !at.has && (at.ways[0] == nil || at.ways[1] == nil) {
		test.Errorf("the place of %v is of no use", at.p)
	}
	return n
}

// hold holds a trie against the routes by their prefixes, and against each address's longest one, found one by one.
func hold(test *testing.T, t *Trie, want map[api.Prefix]api.Route, addrs []uint32) {
	test.Helper()
	var rising []api.Route
	for _, p := range slices.SortedFunc(maps.Keys(want), byPrefix) {
		rising = append(rising, want[p])
		if r, ok := t.Get(p); !ok || r != want[p] {
			test.Errorf("Get(%v) = %v, %v, not %v", p, r, ok, want[p])
		}
	}
	if l := t.All(); !slices.Equal(l, rising) {
		test.Errorf("All: %v, not %v", l, rising)
	}
	if t.Len() != len(want) {
		test.Errorf("Len: %d, not %d", t.Len(), len(want))
	}
	if n := places(test, t.top); n > 2*len(want) {
		test.Errorf("%d places of %d routes", n, len(want))
	}
	for _, addr := range addrs {
		wantLook(test, t, want, addr)
	}
}

func wantLook(test *testing.T, t *Trie, routes map[api.Prefix]api.Route, addr uint32) {
	test.Helper()
	var want api.Route
	found := false
	for n := range 33 {
		if r, ok := routes[of(addr, n)]; ok {
			want, found = r, true
		}
	}
	if r, ok := t.Look(addr); ok != found || r != want {
		test.Errorf("Look(%x) = %v, %v, not %v, %v", addr, r, ok, want, found)
	}
}

func wantNone(test *testing.T, t *Trie, p api.Prefix) {
	test.Helper()
	if r, ok := t.Get(p); ok || r != (api.Route{}) {
		test.Errorf("Get(%v) = %v, %v", p, r, ok)
	}
	if e := t.Drop(p); e != api.ErrNone {
		test.Errorf("Drop(%v) = %d", p, e)
	}
}

// P9.1: the example, and addresses around it.
func TestExample(test *testing.T) {
	t := Of([]api.Route{to(ten, 1), to(tenOne, 2)})
	for addr, via := range map[uint32]int{0x0a010203: 2, 0x0a010000: 2, 0x0a01ffff: 2, 0x0a020000: 1, 0x0a00ffff: 1, 0x0a000000: 1, 0x0affffff: 1} {
		if r, ok := t.Look(addr); !ok || r.Via != via {
			test.Errorf("Look(%x) = %v, %v", addr, r, ok)
		}
	}
	for _, addr := range []uint32{0x09ffffff, 0x0b000000, 0, 0xffffffff, 0x8a010203} {
		if r, ok := t.Look(addr); ok || r != (api.Route{}) {
			test.Errorf("Look(%x) = %v, %v", addr, r, ok)
		}
	}
}

// P9.1: the zero value is empty, and so is Of nothing.
func TestEmpty(test *testing.T) {
	var zero Trie
	for _, t := range []*Trie{&zero, Of(nil), Of([]api.Route{})} {
		if t == nil || t.Len() != 0 || len(t.All()) != 0 {
			test.Fatalf("%v", t.All())
		}
		wantNone(test, t, all)
		wantNone(test, t, ten)
		if r, ok := t.Look(0); ok || r != (api.Route{}) {
			test.Errorf("Look: %v, %v", r, ok)
		}
		if e := t.Put(to(ten, 3)); e != api.OK {
			test.Errorf("Put: %d", e)
		}
		hold(test, t, map[api.Prefix]api.Route{ten: to(ten, 3)}, []uint32{0, 0x0a000000, 0x0b000000})
	}
}

// P9.1: a route stands in the place of its prefix's, whatever else it tells.
func TestPutAgain(test *testing.T) {
	t := &Trie{}
	for _, r := range []api.Route{to(ten, 1), to(ten, 2), {P: ten}, {P: ten, Via: -1}, {P: ten, Via: math.MaxInt, Metric: api.Endless, Seq: 65535}, to(ten, 16)} {
		if e := t.Put(r); e != api.OK {
			test.Errorf("Put(%v) = %d", r, e)
		}
		hold(test, t, map[api.Prefix]api.Route{ten: r}, []uint32{0x0a000001, 0x0b000000})
	}
	if got, ok := t.Look(0x0a999999); !ok || got != to(ten, 16) {
		test.Errorf("Look: %v, %v", got, ok)
	}
}

// P9.1: ErrArg, and nothing has changed: of a prefix that isn't Right.
func TestPutWrong(test *testing.T) {
	full := map[api.Prefix]api.Route{all: to(all, 1), ten: to(ten, 2), lone: to(lone, 3)}
	t := Of(slices.Collect(maps.Values(full)))
	var wrong []api.Prefix
	for n := range 32 {
		for bit := n; bit < 32; bit++ {
			wrong = append(wrong, api.Prefix{Addr: 1 << (31 - bit), Len: uint8(n)})
		}
	}
	for n := 33; n < 256; n++ {
		wrong = append(wrong, api.Prefix{Len: uint8(n)}, api.Prefix{Addr: 0x0a000000, Len: uint8(n)}, api.Prefix{Addr: 0x0a010203, Len: uint8(n)})
	}
	for _, p := range wrong {
		if e := t.Put(to(p, 4)); e != api.ErrArg {
			test.Errorf("Put(%v) = %d", p, e)
		}
		if e := new(Trie).Put(to(p, 4)); e != api.ErrArg {
			test.Errorf("Put(%v) of an empty one: %d", p, e)
		}
		wantNone(test, t, p)
	}
	hold(test, t, full, []uint32{0, 0x0a000000, 0x0a010203, 0xffffffff})
	// Of puts them as Put does: those pass by.
	l := []api.Route{to(wrong[0], 5), to(ten, 6), to(wrong[40], 7), to(tenOne, 8), to(api.Prefix{Len: 33}, 9)}
	hold(test, Of(l), map[api.Prefix]api.Route{ten: l[1], tenOne: l[3]}, []uint32{0, 0x0a000000, 0x0a010000})
}

// P9.1: Of puts in order: of one prefix the last one stays.
func TestOfInOrder(test *testing.T) {
	l := []api.Route{to(ten, 1), to(tenOne, 2), to(ten, 3), to(all, 4), to(tenOne, 5), to(ten, 6)}
	hold(test, Of(l), map[api.Prefix]api.Route{all: l[3], ten: l[5], tenOne: l[4]}, []uint32{0, 0x0a000000, 0x0a010000})
	slices.Reverse(l)
	hold(test, Of(l), map[api.Prefix]api.Route{all: to(all, 4), ten: to(ten, 1), tenOne: to(tenOne, 2)}, []uint32{0, 0x0a000000, 0x0a010000})
}

// P9.1: behind Drop there is no route of the prefix, and the longest one of the others has its addresses.
func TestDrop(test *testing.T) {
	full := map[api.Prefix]api.Route{all: to(all, 1), ten: to(ten, 2), tenOne: to(tenOne, 3), tenTwo: to(tenTwo, 4), lone: to(lone, 5)}
	addrs := []uint32{0, 0x0a000000, 0x0a010000, 0x0a010203, 0x0a010202, 0x0a020000, 0x0a030000, 0xffffffff}
	l := slices.Collect(maps.Keys(full))
	for _, p := range l {
		for _, q := range l {
			want := maps.Clone(full)
			t := Of(slices.Collect(maps.Values(full)))
			if e := t.Drop(p); e != api.OK {
				test.Errorf("Drop(%v) = %d", p, e)
			}
			delete(want, p)
			hold(test, t, want, addrs)
			wantNone(test, t, p)
			if q != p {
				if e := t.Drop(q); e != api.OK {
					test.Errorf("Drop(%v), Drop(%v) = %d", p, q, e)
				}
				delete(want, q)
			}
			hold(test, t, want, addrs)
			t.Put(to(p, 9))
			want[p] = to(p, 9)
			hold(test, t, want, addrs)
		}
	}
}

// P9.1: where ways part there is no route that wasn't put there.
func TestFork(test *testing.T) {
	t := Of([]api.Route{to(tenOne, 1), to(tenTwo, 2)})
	full := map[api.Prefix]api.Route{tenOne: to(tenOne, 1), tenTwo: to(tenTwo, 2)}
	fork := of(0x0a000000, 14)
	for n := range 33 {
		for _, addr := range []uint32{0x0a010000, 0x0a020000, 0x0a000000, 0x0a030000, 0xffffffff} {
			if p := of(addr, n); p != tenOne && p != tenTwo {
				wantNone(test, t, p)
			}
		}
	}
	addrs := []uint32{0, 0x0a000000, 0x0a010000, 0x0a020000, 0x0a030000, 0x0a040000}
	hold(test, t, full, addrs)
	t.Put(to(fork, 3))
	full[fork] = to(fork, 3)
	hold(test, t, full, addrs)
	if e := t.Drop(fork); e != api.OK {
		test.Errorf("Drop: %d", e)
	}
	delete(full, fork)
	hold(test, t, full, addrs)
	wantNone(test, t, fork)
}

// P9.1: prefixes at the edges: of no bits, of all, and one in the other at each length.
func TestEachLength(test *testing.T) {
	for _, addr := range []uint32{0, 0xffffffff, 0x0a010203, 0x80000000, 1, 0x55555555} {
		t, want := &Trie{}, map[api.Prefix]api.Route{}
		var addrs []uint32
		for i := range 32 {
			addrs = append(addrs, addr^1<<i)
		}
		addrs = append(addrs, addr)
		for i := range 33 {
			p := of(addr, i*7%33)
			if e := t.Put(to(p, i)); e != api.OK {
				test.Errorf("Put(%v) = %d", p, e)
			}
			want[p] = to(p, i)
			hold(test, t, want, addrs)
		}
		for i := range 33 {
			p := of(addr, i*10%33)
			if e := t.Drop(p); e != api.OK {
				test.Errorf("Drop(%v) = %d", p, e)
			}
			delete(want, p)
			hold(test, t, want, addrs)
		}
		if t.top != nil {
			test.Error("a place stays behind all routes")
		}
	}
}

// P9.1: of all sets of the prefixes of up to three bits, put from either end, and dropped.
func TestAllSets(test *testing.T) {
	var l []api.Prefix
	for n := range 4 {
		for i := range uint32(1 << n) {
			l = append(l, of(i<<1<<(31-n), n))
		}
	}
	if len(l) != 15 {
		test.Fatalf("%d prefixes", len(l))
	}
	var addrs []uint32
	for i := range uint32(8) {
		addrs = append(addrs, i<<29|0x12345)
	}
	for set := 0; set < 1<<15; set += 3 {
		want := map[api.Prefix]api.Route{}
		t := &Trie{}
		for i := range l {
			if set&1 == 1 {
				i = len(l) - 1 - i
			}
			if set>>i&1 == 1 {
				t.Put(to(l[i], i))
				want[l[i]] = to(l[i], i)
			}
		}
		hold(test, t, want, addrs)
		for i, p := range l {
			if i%3 == 0 && (t.Drop(p) == api.OK) != (set>>i&1 == 1) {
				test.Errorf("Drop(%v)", p)
			}
			if i%3 == 0 {
				delete(want, p)
			}
		}
		hold(test, t, want, addrs)
	}
}

// P9.1: any acts, held against a map.
func TestModel(test *testing.T) {
	for seed := range 60 {
		x := rand.New(rand.NewSource(int64(seed)))
		few := []int{5, 40, 400}[seed%3]
		prefix := func() api.Prefix {
			n := x.Intn(few)
			return of(uint32(n)*0x9e3779b1>>(n%7), n%33)
		}
		t, want := &Trie{}, map[api.Prefix]api.Route{}
		for i := range 600 {
			p := prefix()
			_, there := want[p]
			switch {
			case x.Intn(600) > i:
				if e := t.Put(to(p, i)); e != api.OK {
					test.Fatalf("seed %d: Put(%v) = %d", seed, p, e)
				}
				want[p] = to(p, i)
			case there:
				if e := t.Drop(p); e != api.OK {
					test.Fatalf("seed %d: Drop(%v) = %d", seed, p, e)
				}
				delete(want, p)
			default:
				wantNone(test, t, p)
			}
			wantLook(test, t, want, prefix().Addr)
			wantLook(test, t, want, x.Uint32())
			if i%30 == 0 {
				hold(test, t, want, []uint32{p.Addr, p.Addr + 1, p.Addr - 1})
			}
		}
		hold(test, t, want, nil)
		if test.Failed() {
			test.Fatalf("seed %d", seed)
		}
	}
}

// P9.1: of a nil trie: ErrNone, false, 0, none, whatever it is given.
func TestNil(test *testing.T) {
	var t *Trie
	for _, p := range []api.Prefix{all, ten, lone, {Len: 33}, {Addr: 1}} {
		if e := t.Put(to(p, 1)); e != api.ErrNone {
			test.Errorf("Put(%v) = %d", p, e)
		}
		wantNone(test, t, p)
	}
	if r, ok := t.Look(0); ok || r != (api.Route{}) || t.Len() != 0 || len(t.All()) != 0 {
		test.Errorf("%v, %v, %d, %v", r, ok, t.Len(), t.All())
	}
}

// The rule of memory: a list that is handed in stays as it is, and one that is answered may be appended to.
func TestMemory(test *testing.T) {
	l := []api.Route{to(tenOne, 1), to(ten, 2), to(ten, 3), to(all, 4)}
	old := slices.Clone(l)
	t := Of(l[:3])
	t.Put(to(lone, 5))
	t.Drop(ten)
	if !slices.Equal(l, old) {
		test.Errorf("Of wrote: %v", l)
	}
	one, two := t.All(), t.All()
	want := []api.Route{to(tenOne, 1), to(lone, 5)}
	_ = append(one, to(ten, 6))
	t.Put(to(tenOne, 7))
	t.Drop(lone)
	if !slices.Equal(one, want) || !slices.Equal(two, want) {
		test.Errorf("%v, %v", one, two)
	}
	hold(test, t, map[api.Prefix]api.Route{tenOne: to(tenOne, 7)}, []uint32{0x0a010000, 0})
}

// P1: every call ends and none panics, at all arguments.
func TestAnything(test *testing.T) {
	var l []api.Prefix
	for _, addr := range []uint32{0, 1, 0x0a010203, 0x0a000000, 0x80000000, 0xffffffff} {
		for n := range 256 {
			l = append(l, api.Prefix{Addr: addr, Len: uint8(n)})
		}
	}
	for _, t := range []*Trie{nil, {}, Of([]api.Route{to(all, 1), to(ten, 2), to(lone, 3), to(of(0xffffffff, 32), 4)})} {
		for _, p := range l {
			t.Get(p)
			t.Look(p.Addr)
			t.Put(api.Route{P: p, Via: math.MinInt})
			t.Get(p)
			t.Len()
		}
		t.All()
		for _, p := range l {
			t.Drop(p)
			t.Drop(p)
		}
		if t.Len() != 0 || len(t.All()) != 0 {
			test.Errorf("%d routes stay", t.Len())
		}
	}
}

// P2: in which order routes came, and what came and went between, changes no answer.
func TestAnswersHangOnNothingElse(test *testing.T) {
	want := map[api.Prefix]api.Route{all: to(all, 1), ten: to(ten, 2), tenOne: to(tenOne, 3), tenTwo: to(tenTwo, 4), lone: to(lone, 5)}
	rising := []api.Prefix{all, ten, tenOne, lone, tenTwo}
	addrs := []uint32{0, 0x0a000000, 0x0a010000, 0x0a010203, 0x0a020000, 0x0a030000, 0xffffffff}
	for seed := range 120 {
		x := rand.New(rand.NewSource(int64(seed)))
		t := &Trie{}
		for _, i := range x.Perm(len(rising)) {
			t.Put(to(of(x.Uint32()|0x80000000, 20), 9))
			t.Put(to(rising[i], 8))
			t.Look(x.Uint32())
			t.Put(want[rising[i]])
		}
		for _, r := range t.All() {
			if want[r.P] != r {
				t.Drop(r.P)
			}
		}
		hold(test, t, want, addrs)
	}
}
