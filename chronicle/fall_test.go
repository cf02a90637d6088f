package chronicle

import (
	"strings"
	"testing"

	"milestone/api"
	"milestone/shelf"
)

// past is what a chronicle was told ahead of a fall.
type past struct {
	all  []record // each that was appended, from the first one on
	safe int      // how many of them are safe for sure
	head Head     // that of before
	base string
	// The Fold that fell, if one did: 0, if none.
	foldUpto uint64
	foldBase string
}

// step is a call of a script: a Fold (upto above 0), a Sync, or an Append.
type step struct {
	r    record
	sync bool
	upto uint64
	base string
}

// do does a step, and answers what the call did.
func (x *past) do(c *Chronicle, m step) api.Errno {
	switch {
	case m.upto > 0:
		x.foldUpto, x.foldBase = m.upto, m.base
		e := c.Fold(m.upto, []byte(m.base))
		if e == api.OK {
			x.safe = len(x.all)
			x.head, x.base, x.foldUpto = c.Head(), m.base, 0
		}
		return e
	case m.sync:
		e := c.Sync()
		if e == api.OK {
			x.safe = len(x.all)
		}
		return e
	}
	volumes := len(c.Volumes())
	_, e := c.Append(m.r.kind, []byte(m.r.p))
	if e == api.OK {
		if len(c.Volumes()) > volumes {
			x.safe = len(x.all)
		}
		x.all = append(x.all, m.r)
	}
	return e
}

// appends are so many steps that append.
func appends(n int) []step {
	var l []step
	for _, r := range some(n) {
		l = append(l, step{r: r})
	}
	return l
}

// scripts are those that are broken off anywhere.
func scripts() [][]step {
	sync := step{sync: true}
	fold := func(upto uint64, p string) step { return step{upto: upto, base: p} }
	l := [][]step{nil, {sync}, appends(7)}
	x := append(appends(3), sync)
	x = append(x, appends(4)...)
	x = append(x, fold(2, "first"))
	x = append(x, appends(2)...)
	l = append(l, append(x, fold(3, ""), sync, fold(9, strings.Repeat("third", 30)), step{r: record{'z', "last"}}))
	return append(l, append(appends(1), fold(1, "one"), sync, sync, step{r: record{}}, fold(2, "two"), step{r: record{}}, step{r: record{}}, sync))
}

// play does a script until the shelf falls; false: it didn't.
func play(t *testing.T, s *shelf.Shelf, most int, script []step, x *past) bool {
	t.Helper()
	c, e := Open(s, most)
	for i := 0; e == api.OK && i < len(script); i++ {
		e = x.do(c, script[i])
	}
	if e != api.OK && e != api.ErrStop {
		t.Fatalf("a script that isn't right: %d", e)
	}
	return e == api.ErrStop
}

// wantKnown asks that a chronicle has what P10.5 asks for, and answers how many records it has, of those in the base too.
func wantKnown(t *testing.T, c *Chronicle, x *past) int {
	t.Helper()
	head := c.Head()
	p, _ := c.Base()
	before := head.Upto == x.head.Upto && head.Base == x.head.Base && string(p) == x.base
	fell := x.foldUpto > 0 && head.Upto == x.foldUpto && head.Base == x.head.Base+1 && string(p) == x.foldBase
	if !before && !fell {
		t.Fatalf("Head %v, Base %q: before %v, %q; fell up to %d, %q", head, p, x.head, x.base, x.foldUpto, x.foldBase)
	}
	l, _ := c.Records()
	n := int(head.Upto) + len(l)
	if n < x.safe || n > len(x.all) {
		t.Fatalf("%d records are known, of %d, of which %d are safe", n, len(x.all), x.safe)
	}
	wantRecords(t, c, x.all[head.Upto:n], head.Upto+1)
	return n
}

// falls are how many moves of names, and how many bytes of each file, stay.
var falls = []struct{ names, bytes int }{
	{0, 0}, {1, 0}, {2, 0}, {3, 0}, {100, 0}, {0, 3}, {1, 3}, {2, 8}, {1, 9}, {2, 30}, {100, 1}, {100, 9}, {100, 11}, {100, 100}, {0, plenty}, {1, plenty}, {100, plenty}, {-1, -1},
}

// P10.5: a fall at any act of any script, of which anything stays: what was safe is known; and so it is when Open falls in its turn.
func TestFallAnywhere(t *testing.T) {
	for _, most := range []int{0, 9, 20, 60, plenty} {
		for _, script := range scripts() {
			fell := true
			for acts := 0; fell; acts++ {
				for _, f := range falls {
					s, x := shelf.New(plenty), &past{head: Head{First: 1}}
					s.Arm(acts)
					fell = play(t, s, most, script, x)
					s.Fall(f.names, f.bytes)
					fallAgain(t, s, most, x, acts)
				}
			}
		}
	}
}

// fallAgain opens a chronicle on a shelf that falls once more, first within Open, then behind an Append; each time what was known stays so.
func fallAgain(t *testing.T, s *shelf.Shelf, most int, x *past, acts int) {
	t.Helper()
	for again := range 3 {
		s.Arm(again)
		if _, e := Open(s, most); e != api.OK && e != api.ErrStop {
			t.Fatalf("Open on a shelf that falls: %d", e)
		}
		f := falls[(acts+again)%len(falls)]
		s.Fall(f.names, f.bytes)
	}
	c := wantOpen(t, s, most)
	n := wantKnown(t, c, x)
	if s.Moves() != 0 {
		t.Fatal("names aren't safe behind Open")
	}
	// What is appended now is known behind the next fall, and nothing comes back that wasn't there.
	y := &past{all: x.all[:n:n], safe: n, head: c.Head()}
	p, _ := c.Base()
	y.base = string(p)
	for _, m := range []step{{r: record{'n', "new"}}, {r: record{'n', ""}}, {r: record{'n', "newer"}}, {sync: true}} {
		if e := y.do(c, m); e != api.OK {
			t.Fatalf("behind a fall: %d", e)
		}
	}
	s.Fall(0, 0)
	c = wantOpen(t, s, most)
	if wantKnown(t, c, y) != n+3 {
		t.Fatal("what was Synced behind a fall isn't known")
	}
	if e := y.do(c, step{upto: uint64(n + 2), base: "behind falls"}); e != api.OK {
		t.Fatalf("Fold behind falls: %d", e)
	}
	s.Fall(0, 0)
	wantKnown(t, wantOpen(t, s, most), y)
}

// P10.3, P10.4: what is on the shelf when it falls at each act of a Fold, or of an Append that begins a volume, if all of that stays.
func TestSteps(t *testing.T) {
	oldIndex, oldBase, newBase := indexOf(1, 1, 2), baseOf("old"), baseOf("new")
	index, v1, v2, more := indexOf(2, 2, 4), span(1, 1, 3).file(), span(2, 4, 1).file(), written('m', "")
	start := map[string]string{"index": oldIndex, "b.1": oldBase, "v.1": v1, "v.2": v2}
	based := but(start, "b.2", newBase)
	indexed := map[string]string{"index": index, "b.1": oldBase, "b.2": newBase, "v.1": v1, "v.2": v2}
	end := map[string]string{"index": index, "b.2": newBase, "v.2": v2}
	fold := []map[string]string{start, start, but(start, "index.new", ""), but(start, "index.new", newBase), but(start, "index.new", newBase), based, based, but(based, "index.new", ""), but(based, "index.new", index), but(based, "index.new", index), indexed, indexed, nil, end, end}
	wantSteps(t, start, fold, func(c *Chronicle) api.Errno { return c.Fold(4, []byte("new")) })
	begun := but(start, "v.3", titleOf(3, 5))
	begin := []map[string]string{start, start, but(start, "v.3", ""), begun, begun, begun, but(start, "v.3", titleOf(3, 5)+more)}
	wantSteps(t, start, begin, func(c *Chronicle) api.Errno {
		_, e := c.Append('m', nil)
		return e
	})
}

// wantSteps does a call on a shelf of some files that falls behind ever more acts, and asks which files stay each time (nil: any).
func wantSteps(t *testing.T, start map[string]string, want []map[string]string, call func(c *Chronicle) api.Errno) {
	t.Helper()
	for acts, files := range want {
		s := shelfOf(start)
		c := wantOpen(t, s, len(start["v.2"]))
		s.Arm(acts)
		if e := call(c); (e == api.OK) != (acts == len(want)-1) {
			t.Fatalf("%d acts: %d", acts, e)
		}
		s.Fall(100, plenty)
		if files != nil {
			wantFiles(t, s, files)
		}
	}
}

// P10.5: many falls, one behind the other, by chance, on a shelf whose room may run out.
func TestManyFalls(t *testing.T) {
	for seed := range 400 {
		x := chance(seed)
		most := []int{0, 12, 40, 100, plenty}[seed%5]
		s, p := shelf.New(plenty), &past{head: Head{First: 1}}
		for range 40 {
			s.Room([]int{plenty, 100, 400, 1500}[x.below(4)])
			s.Arm(x.below(40) - 1)
			lifeByChance(t, &x, s, most, p)
			f := falls[x.below(len(falls))]
			s.Fall(f.names, f.bytes)
			s.Room(plenty)
			c := wantOpen(t, s, most)
			n := wantKnown(t, c, p)
			base, _ := c.Base()
			*p = past{all: p.all[:n:n], safe: n, head: c.Head(), base: string(base)}
		}
	}
}

// lifeByChance is what a chronicle is told from one fall to the next.
func lifeByChance(t *testing.T, x *chance, s *shelf.Shelf, most int, p *past) {
	t.Helper()
	c, e := Open(s, most)
	for e != api.ErrStop && c != nil {
		m := step{r: record{byte(x.below(256)), strings.Repeat("p", x.below(30))}}
		switch n := x.below(12); {
		case n < 2:
			m = step{sync: true}
		case n < 4:
			m = step{upto: p.head.Upto + 1 + uint64(x.below(5)), base: strings.Repeat("b", x.below(40))}
		case n < 5:
			return
		}
		before, full := filesOf(s), c.Full()
		e = p.do(c, m)
		if e == api.ErrFull || e == api.ErrClosed || e == api.ErrArg {
			// It didn't happen, so no fall may tell of it.
			p.foldUpto = 0
			wantFiles(t, s, before)
			if m.upto > 0 && c.Full() != full {
				t.Fatal("Full behind a Fold that didn't happen")
			}
		}
	}
}
