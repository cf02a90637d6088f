package shelf

import (
	"maps"
	"math"
	"slices"
	"strings"
	"testing"

	"milestone/api"
)

// modelFile is a file of a model: its bytes, and how many of them are safe.
type modelFile struct {
	p    string
	safe int
}

// model is what a Shelf should be, told another way: it keeps all names as they were when they were safe, and again
// behind each thing that was done to them since. Files are told by their numbers.
type model struct {
	room, done int
	arm        int // below 0: none
	off        bool
	files      []modelFile
	ages       []map[string]int
}

func newModel(room int) *model {
	return &model{room: room, arm: -1, ages: []map[string]int{{}}}
}

// now is names as they are.
func (m *model) now() map[string]int {
	return m.ages[len(m.ages)-1]
}

// age begins a new age, with names that are still as they were.
func (m *model) age() map[string]int {
	m.ages = append(m.ages, maps.Clone(m.now()))
	return m.now()
}

// used goes through all ages, and counts each file that comes there once.
func (m *model) used() int {
	there := map[int]int{}
	for _, names := range m.ages {
		for _, f := range names {
			there[f] = len(m.files[f].p)
		}
	}
	n := 0
	for _, size := range there {
		n += size
	}
	return n
}

func (m *model) list() []string {
	if m.off {
		return nil
	}
	return slices.Sorted(maps.Keys(m.now()))
}

// gate: what is answered ahead of all else.
func (m *model) gate() api.Errno {
	m.off = m.off || m.arm == 0
	if m.off {
		return api.ErrStop
	}
	m.arm = max(m.arm-1, -1)
	m.done++
	return api.OK
}

// do is an act: the kinds are those of the word.
func (m *model) do(kind, name, to string, p string, n int) api.Errno {
	wrong := func(s string) bool {
		return s == "" || len(s) > 32 || strings.Trim(s, "abcdefghijklmnopqrstuvwxyz0123456789.") != ""
	}
	if kind == "create" && wrong(name) || kind == "rename" && wrong(to) {
		return api.ErrArg
	}
	if e := m.gate(); e != api.OK {
		return e
	}
	f, there := m.now()[name]
	switch {
	case kind == "names":
		m.ages = []map[string]int{m.now()}
		return api.OK
	case kind == "create" && there:
		return api.ErrThere
	case kind == "create":
		m.files = append(m.files, modelFile{})
		m.age()[name] = len(m.files) - 1
		return api.OK
	case !there:
		return api.ErrNone
	}
	return m.doTo(f, kind, name, to, p, n)
}

// doTo is an act on a file that is there.
func (m *model) doTo(f int, kind, name, to string, p string, n int) api.Errno {
	x := &m.files[f]
	switch kind {
	case "append":
		if len(p) > m.room-m.used() {
			return api.ErrFull
		}
		x.p += p
	case "sync":
		x.safe = len(x.p)
	case "rename":
		if name != to {
			names := m.age()
			delete(names, name)
			names[to] = f
		}
	case "delete":
		delete(m.age(), name)
	case "cut":
		if n < 0 || n > len(x.p) {
			return api.ErrArg
		}
		*x = modelFile{x.p[:n], n}
	}
	return api.OK
}

func (m *model) fall(names, bytes int) {
	m.ages = []map[string]int{m.ages[min(max(names, 0), len(m.ages)-1)]}
	for i, x := range m.files {
		end := len(x.p)
		if rest := end - x.safe; bytes < rest {
			end = x.safe + max(bytes, 0)
		}
		m.files[i] = modelFile{x.p[:end], end}
	}
	m.off, m.arm = false, -1
}

// actOf does the same act to a Shelf.
func actOf(s *Shelf, kind, name, to string, p string, n int) api.Errno {
	switch kind {
	case "create":
		return s.Create(name)
	case "append":
		return s.Append(name, []byte(p))
	case "sync":
		return s.Sync(name)
	case "names":
		return s.Names()
	case "rename":
		return s.Rename(name, to)
	case "delete":
		return s.Delete(name)
	}
	return s.Cut(name, n)
}

// wantModel asks that all that a Shelf tells is what the model tells.
func wantModel(t *testing.T, s *Shelf, m *model, names []string) {
	t.Helper()
	if s.On() == m.off || s.Done() != m.done || s.Used() != m.used() || s.Moves() != len(m.ages)-1 || !slices.Equal(s.List(), m.list()) {
		t.Fatalf("On %v, Done %d, Used %d, Moves %d, List %q; not %v, %d, %d, %d, %q",
			s.On(), s.Done(), s.Used(), s.Moves(), s.List(), !m.off, m.done, m.used(), len(m.ages)-1, m.list())
	}
	for _, name := range names {
		p, e := s.Read(name)
		f, there := m.now()[name]
		switch {
		case m.off && (e != api.ErrStop || len(p) != 0):
			t.Fatalf("Read(%q) = %q, %d, though fallen", name, p, e)
		case !m.off && !there && (e != api.ErrNone || len(p) != 0):
			t.Fatalf("Read(%q) = %q, %d, not none", name, p, e)
		case !m.off && there && (e != api.OK || string(p) != m.files[f].p):
			t.Fatalf("Read(%q) = %q, %d, not %q", name, p, e, m.files[f].p)
		}
	}
}

// dice are numbers that come out the same each time.
type dice uint32

// roll is a number from 0 to n - 1.
func (d *dice) roll(n int) int {
	*d = *d*1664525 + 1013904223
	return int(*d>>8) % n
}

// step does one thing to both, an act or what is none.
func step(t *testing.T, d *dice, s *Shelf, m *model, names []string) {
	t.Helper()
	kinds := []string{"create", "create", "append", "append", "append", "sync", "names", "rename", "rename", "delete", "cut"}
	switch d.roll(12) {
	case 0:
		k, n := d.roll(9)-2, d.roll(12)-2
		s.Fall(k, n)
		m.fall(k, n)
	case 1:
		n := d.roll(14) - 3
		s.Arm(n)
		if !m.off {
			m.arm = max(n, -1)
		}
	case 2:
		n := d.roll(60)
		s.Room(n)
		m.room = n
	default:
		kind, name, to := kinds[d.roll(len(kinds))], names[d.roll(len(names))], names[d.roll(len(names))]
		p, n := "abcdefghijkl"[:d.roll(12)], d.roll(16)-2
		if got, want := actOf(s, kind, name, to, p, n), m.do(kind, name, to, p, n); got != want {
			t.Fatalf("%s(%q, %q, %q, %d): %d, not %d", kind, name, to, p, n, got, want)
		}
	}
}

// P5.1 to P5.4, P2: of any acts in any order, a Shelf tells what the model tells.
func TestModel(t *testing.T) {
	names := []string{"a", "b", "c", "index", "index", "v.1", "A", "", strings.Repeat("z", 32), strings.Repeat("z", 33)}
	d := dice(5)
	for range 400 {
		room := d.roll(100)
		s, m := New(room), newModel(room)
		for range 150 {
			step(t, &d, s, m, names)
			wantModel(t, s, m, names)
		}
	}
}

// P2: two shelves that are told the same answer the same, whatever is told to a third one between.
func TestShelvesApart(t *testing.T) {
	names := []string{"a", "b", "c"}
	one, two, other := dice(9), dice(9), dice(77)
	s, m := New(50), newModel(50)
	x, y := New(50), newModel(50)
	z, o := New(50), newModel(50)
	for range 3000 {
		step(t, &one, s, m, names)
		step(t, &other, z, o, names)
		step(t, &two, x, y, names)
		wantModel(t, s, y, names)
		wantModel(t, x, m, names)
	}
}

// P5.4: all ends of a script that falls at each of its acts, with so much of names and bytes as may stay of it.
func TestFallAtEachAct(t *testing.T) {
	script := []struct{ kind, name, to, p string }{
		{"create", "index.new", "", ""}, {"append", "index.new", "", "one"}, {"sync", "index.new", "", ""}, {"rename", "index.new", "index", ""}, {"names", "", "", ""},
		{"create", "v.1", "", ""}, {"append", "v.1", "", "title"}, {"sync", "v.1", "", ""}, {"names", "", "", ""}, {"append", "v.1", "", "record"},
		{"create", "index.new", "", ""}, {"append", "index.new", "", "two"}, {"sync", "index.new", "", ""}, {"rename", "index.new", "index", ""}, {"delete", "v.1", "", ""}, {"names", "", "", ""},
	}
	for at := range len(script) + 1 {
		for k := range 5 {
			for _, n := range []int{0, 1, 3, 7, math.MaxInt} {
				s, m := New(100), newModel(100)
				s.Arm(at)
				m.arm = at
				for _, x := range script {
					if got, want := actOf(s, x.kind, x.name, x.to, x.p, 0), m.do(x.kind, x.name, x.to, x.p, 0); got != want {
						t.Fatalf("%s(%q), armed for %d: %d, not %d", x.kind, x.name, at, got, want)
					}
				}
				s.Fall(k, n)
				m.fall(k, n)
				wantModel(t, s, m, []string{"index", "index.new", "v.1"})
			}
		}
	}
}
