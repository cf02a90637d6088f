package shelf

import (
	"bytes"
	"math"
	"slices"
	"strconv"
	"strings"
	"testing"

	"milestone/api"
)

// wrongNames are texts that can't be names.
var wrongNames = []string{
	"", strings.Repeat("a", 33), strings.Repeat(".", 64), "A", "Z", "aB", "a b", " a", "a ", "a/b", "a-b", "a_b", "a:", "`", "{", "a\x00", "a\n", "@", "/",
	"é", "aé", "ａ", "１", "٣", "a。", "\xff", "a\xc3", "\u202e", "😀", strings.Repeat("é", 16),
}

// edges are numbers at which something may go wrong.
var edges = []int{0, 1, -1, 2, 31, 32, 33, 1 << 20, 1 << 40, math.MaxInt32, math.MinInt32, math.MaxInt, math.MinInt, math.MaxInt - 1, math.MinInt + 1}

// act is an act, with what calls it.
type act struct {
	name string
	do   func(s *Shelf) api.Errno
}

// acts are all acts that may be done to the file a (with room for 1 byte more); each changes something of it.
func acts() []act {
	return []act{
		{"Create", func(s *Shelf) api.Errno { return s.Create("new") }},
		{"Append", func(s *Shelf) api.Errno { return s.Append("a", []byte("1")) }},
		{"Sync", func(s *Shelf) api.Errno { return s.Sync("a") }},
		{"Names", func(s *Shelf) api.Errno { return s.Names() }},
		{"Rename", func(s *Shelf) api.Errno { return s.Rename("a", "new") }},
		{"Rename over", func(s *Shelf) api.Errno { return s.Rename("a", "b") }},
		{"Delete", func(s *Shelf) api.Errno { return s.Delete("a") }},
		{"Cut", func(s *Shelf) api.Errno { return s.Cut("a", 1) }},
	}
}

// refused are acts that are wrong but for a shelf that falls at them: of each, what it answers then.
func refused() map[api.Errno][]act {
	return map[api.Errno][]act{
		api.ErrThere: {
			{"Create", func(s *Shelf) api.Errno { return s.Create("a") }},
		},
		api.ErrFull: {
			{"Append", func(s *Shelf) api.Errno { return s.Append("a", make([]byte, 2000)) }},
		},
		api.ErrNone: {
			{"Append", func(s *Shelf) api.Errno { return s.Append("none", make([]byte, 2000)) }},
			{"Append of a wrong name", func(s *Shelf) api.Errno { return s.Append("A", nil) }},
			{"Sync", func(s *Shelf) api.Errno { return s.Sync("none") }},
			{"Sync of a wrong name", func(s *Shelf) api.Errno { return s.Sync("") }},
			{"Rename", func(s *Shelf) api.Errno { return s.Rename("none", "a") }},
			{"Rename of a wrong name", func(s *Shelf) api.Errno { return s.Rename("A", "a") }},
			{"Rename of one name", func(s *Shelf) api.Errno { return s.Rename("none", "none") }},
			{"Delete", func(s *Shelf) api.Errno { return s.Delete("none") }},
			{"Delete of a wrong name", func(s *Shelf) api.Errno { return s.Delete("\xff") }},
			{"Cut", func(s *Shelf) api.Errno { return s.Cut("none", -1) }},
			{"Cut of a wrong name", func(s *Shelf) api.Errno { return s.Cut("", 1) }},
		},
		api.ErrArg: {
			{"Cut behind the end", func(s *Shelf) api.Errno { return s.Cut("a", 4) }},
			{"Cut below 0", func(s *Shelf) api.Errno { return s.Cut("a", -1) }},
		},
	}
}

// some is a shelf with room for 1000 bytes, on which the file a has 3 bytes, b 2, and of each the first one is safe;
// names are, but for the file c.
func some() *Shelf {
	s := New(1000)
	for _, f := range []struct{ name, p string }{{"a", "abc"}, {"b", "xy"}} {
		s.Create(f.name)
		s.Append(f.name, []byte(f.p[:1]))
		s.Sync(f.name)
		s.Append(f.name, []byte(f.p[1:]))
	}
	s.Names()
	s.Create("c")
	return s
}

// wantOK asks that acts went well.
func wantOK(t *testing.T, l ...api.Errno) {
	t.Helper()
	for i, e := range l {
		if e != api.OK {
			t.Errorf("act %d: %d", i, e)
		}
	}
}

// wantErr asks what an act answered.
func wantErr(t *testing.T, what string, got, want api.Errno) {
	t.Helper()
	if got != want {
		t.Errorf("%s: %d, not %d", what, got, want)
	}
}

// wantFile asks what stands in a file.
func wantFile(t *testing.T, s *Shelf, name, want string) {
	t.Helper()
	if p, e := s.Read(name); e != api.OK || string(p) != want {
		t.Errorf("Read(%q) = %q, %d, not %q", name, p, e, want)
	}
}

// wantNoFile asks that a name has no file.
func wantNoFile(t *testing.T, s *Shelf, name string) {
	t.Helper()
	if p, e := s.Read(name); e != api.ErrNone || len(p) != 0 {
		t.Errorf("Read(%q) = %q, %d, not none", name, p, e)
	}
}

// wantTold asks for the names (with blanks between), how many bytes are used, and how much was done to names.
func wantTold(t *testing.T, s *Shelf, list string, used, moves int) {
	t.Helper()
	got := strings.Join(s.List(), " ")
	if got != list || s.Used() != used || s.Moves() != moves {
		t.Errorf("List %q, Used %d, Moves %d, not %q, %d, %d", got, s.Used(), s.Moves(), list, used, moves)
	}
}

// wantFallen asks that a shelf has fallen: no file is told, and no act is done, or counted.
func wantFallen(t *testing.T, what string, s *Shelf) {
	t.Helper()
	done, used, moves := s.Done(), s.Used(), s.Moves()
	if s.On() || len(s.List()) != 0 {
		t.Errorf("%s: On %v, List %q", what, s.On(), s.List())
	}
	for _, name := range []string{"a", "none", "A", ""} {
		if p, e := s.Read(name); e != api.ErrStop || len(p) != 0 {
			t.Errorf("%s: Read(%q) = %q, %d", what, name, p, e)
		}
	}
	for _, x := range acts() {
		wantErr(t, what+": "+x.name, x.do(s), api.ErrStop)
	}
	for _, l := range refused() {
		for _, x := range l {
			wantErr(t, what+": "+x.name, x.do(s), api.ErrStop)
		}
	}
	if s.Done() != done || s.Used() != used || s.Moves() != moves {
		t.Errorf("%s: Done %d, Used %d, Moves %d, not %d, %d, %d", what, s.Done(), s.Used(), s.Moves(), done, used, moves)
	}
}

// P5.1: a name is 1 to MaxName letters a to z, digits and points.
func TestName(t *testing.T) {
	const fit = "abcdefghijklmnopqrstuvwxyz0123456789."
	for r := range rune(0x3000) {
		if got, want := Name(string(r)), strings.ContainsRune(fit, r); got != want {
			t.Errorf("Name(%q) = %v", string(r), got)
		}
		if got, want := Name("a"+string(r)+"b"), strings.ContainsRune(fit, r); got != want {
			t.Errorf("Name of %q between letters = %v", string(r), got)
		}
	}
	for b := range 256 {
		s := string([]byte{byte(b)})
		if got, want := Name(s), strings.Contains(fit, s); got != want {
			t.Errorf("Name(%q) = %v", s, got)
		}
	}
	for n := range 100 {
		for _, s := range []string{strings.Repeat("z", n), strings.Repeat(".", n), strings.Repeat("0", n)} {
			if got, want := Name(s), 1 <= n && n <= 32; got != want {
				t.Errorf("Name(%q) = %v", s, got)
			}
		}
	}
	for _, s := range []string{"index", "index.new", "v.1", "b.18446744073709551615", ".", "..", "0", fit[:32], fit[5:]} {
		if !Name(s) {
			t.Errorf("Name(%q): false", s)
		}
	}
	for _, s := range wrongNames {
		if Name(s) {
			t.Errorf("Name(%q): true", s)
		}
	}
	if Name(fit) || Name(strings.Repeat("a", 1<<20)) || Name(strings.Repeat("a", 31)+"é") {
		t.Error("Name: too long")
	}
}

// P5.1: ErrArg, of a name that can't be, of Create and of Rename's to, goes ahead of all:
// such an act isn't counted, and a shelf that is armed for it doesn't fall.
func TestWrongNames(t *testing.T) {
	for _, name := range wrongNames {
		s := some()
		done := s.Done()
		s.Arm(0)
		for range 3 {
			wantErr(t, "Create", s.Create(name), api.ErrArg)
			for _, from := range []string{"a", "b", "none", "A", "", name} {
				wantErr(t, "Rename", s.Rename(from, name), api.ErrArg)
			}
		}
		if !s.On() || s.Done() != done {
			t.Errorf("%q: On %v, Done %d", name, s.On(), s.Done())
		}
		wantTold(t, s, "a b c", 5, 1)
		wantErr(t, "the act for which it is armed", s.Sync("a"), api.ErrStop)
		wantErr(t, "Create, fallen", s.Create(name), api.ErrArg)
		wantErr(t, "Rename, fallen", s.Rename("a", name), api.ErrArg)
		wantFallen(t, "armed", s)
	}
}

// P5.1: other acts, of a name that can't be, find no file; they are counted.
func TestWrongNamesElsewhere(t *testing.T) {
	for _, name := range wrongNames {
		s := some()
		done := s.Done()
		l := []api.Errno{s.Append(name, nil), s.Append(name, []byte("p")), s.Sync(name), s.Rename(name, "a"), s.Delete(name), s.Cut(name, 0), s.Cut(name, -1)}
		for i, e := range l {
			if e != api.ErrNone {
				t.Errorf("%q, act %d: %d", name, i, e)
			}
		}
		if s.Done() != done+len(l) {
			t.Errorf("%q: Done %d", name, s.Done()-done)
		}
		wantNoFile(t, s, name)
		wantTold(t, s, "a b c", 5, 1)
	}
}

// P5.1: a shelf falls at the act for which it is armed; that one does nothing, nor is it counted.
func TestArmedAct(t *testing.T) {
	for _, x := range acts() {
		s := some()
		done := s.Done()
		s.Arm(0)
		wantErr(t, x.name, x.do(s), api.ErrStop)
		if s.Done() != done || s.Used() != 5 || s.Moves() != 1 {
			t.Errorf("%s: Done %d, Used %d, Moves %d", x.name, s.Done()-done, s.Used(), s.Moves())
		}
		wantFallen(t, x.name, s)
		s.Fall(99, 99)
		wantTold(t, s, "a b c", 5, 0)
		wantFile(t, s, "a", "abc")
		s = some()
		s.Arm(0)
		x.do(s)
		s.Fall(0, 0)
		wantTold(t, s, "a b", 2, 0)
		wantFile(t, s, "a", "a")
	}
}

// P5.1: ErrStop goes ahead of what else is wrong, at the act for which a shelf is armed, too.
func TestArmedWrongAct(t *testing.T) {
	for want, l := range refused() {
		for _, x := range l {
			s := some()
			done := s.Done()
			wantErr(t, x.name, x.do(s), want)
			if s.Done() != done+1 || !s.On() {
				t.Errorf("%s: Done %d, On %v", x.name, s.Done()-done, s.On())
			}
			wantTold(t, s, "a b c", 5, 1)
			s.Arm(0)
			wantErr(t, x.name+", armed", x.do(s), api.ErrStop)
			wantFallen(t, x.name, s)
		}
	}
}

// P5.1: each act that comes further is counted, whatever it answers; nothing else is.
func TestDone(t *testing.T) {
	s := New(5)
	if s.Done() != 0 {
		t.Errorf("Done of a new one: %d", s.Done())
	}
	l := []api.Errno{
		s.Create("a"), s.Create("a"), s.Append("a", []byte("12345")), s.Append("a", []byte("6")), s.Append("a", nil), s.Append("b", nil),
		s.Sync("a"), s.Sync("b"), s.Names(), s.Names(), s.Rename("a", "b"), s.Rename("a", "b"), s.Rename("b", "b"),
		s.Cut("b", 4), s.Cut("b", 5), s.Cut("b", -1), s.Cut("a", 0), s.Delete("b"), s.Delete("b"),
	}
	want := []api.Errno{
		api.OK, api.ErrThere, api.OK, api.ErrFull, api.OK, api.ErrNone,
		api.OK, api.ErrNone, api.OK, api.OK, api.OK, api.ErrNone, api.OK,
		api.OK, api.ErrArg, api.ErrArg, api.ErrNone, api.OK, api.ErrNone,
	}
	if !slices.Equal(l, want) || s.Done() != len(want) {
		t.Errorf("%v, not %v; Done %d", l, want, s.Done())
	}
	s.Read("a")
	s.List()
	s.Used()
	s.Moves()
	s.On()
	s.Room(9)
	s.Arm(9)
	s.Create("A")
	s.Rename("a", "")
	s.Fall(1, 1)
	if s.Done() != len(want) {
		t.Errorf("Done behind what are no acts: %d", s.Done())
	}
}

// P5.2: Create makes an empty file; ErrThere: then that one stays.
func TestCreate(t *testing.T) {
	s := New(10)
	wantTold(t, s, "", 0, 0)
	wantNoFile(t, s, "a")
	wantOK(t, s.Create("a"))
	wantFile(t, s, "a", "")
	wantTold(t, s, "a", 0, 1)
	wantOK(t, s.Append("a", []byte("xy")))
	wantErr(t, "Create", s.Create("a"), api.ErrThere)
	wantFile(t, s, "a", "xy")
	wantTold(t, s, "a", 2, 1)
	wantOK(t, s.Delete("a"), s.Create("a"))
	wantFile(t, s, "a", "")
	wantTold(t, s, "a", 2, 3)
	wantOK(t, s.Create(strings.Repeat("z", 32)))
	wantFile(t, s, strings.Repeat("z", 32), "")
}

// P5.2: Append puts bytes behind a file's, if there is room for all of them.
func TestAppend(t *testing.T) {
	s := New(10)
	wantOK(t, s.Create("a"), s.Create("b"), s.Append("a", nil), s.Append("a", []byte{}), s.Append("a", []byte("abc")), s.Append("b", []byte("xy")), s.Append("a", []byte("d")))
	wantFile(t, s, "a", "abcd")
	wantFile(t, s, "b", "xy")
	wantTold(t, s, "a b", 6, 2)
	wantErr(t, "one beyond", s.Append("b", []byte("12345")), api.ErrFull)
	wantErr(t, "far beyond", s.Append("b", make([]byte, 1<<20)), api.ErrFull)
	wantFile(t, s, "b", "xy")
	wantTold(t, s, "a b", 6, 2)
	wantOK(t, s.Append("b", []byte("1234")))
	wantFile(t, s, "b", "xy1234")
	wantTold(t, s, "a b", 10, 2)
	wantErr(t, "no room", s.Append("a", []byte("1")), api.ErrFull)
	wantOK(t, s.Append("a", nil), s.Append("b", []byte{}))
	wantFile(t, s, "a", "abcd")
}

// P5.2: ErrNone goes ahead of ErrFull.
func TestAppendToNone(t *testing.T) {
	s := New(0)
	for _, p := range [][]byte{nil, {}, []byte("p"), make([]byte, 99)} {
		wantErr(t, "Append", s.Append("none", p), api.ErrNone)
	}
	wantOK(t, s.Create("a"), s.Append("a", nil))
	wantErr(t, "no room", s.Append("a", []byte("p")), api.ErrFull)
}

// P5.2, P5.3: what has no name any more takes room, until names are safe, and so does what a fall may bring back.
func TestRoomOfGone(t *testing.T) {
	s := New(10)
	wantOK(t, s.Create("a"), s.Append("a", make([]byte, 6)), s.Delete("a"), s.Create("b"))
	wantErr(t, "Append", s.Append("b", make([]byte, 5)), api.ErrFull)
	wantOK(t, s.Append("b", make([]byte, 4)), s.Names(), s.Append("b", make([]byte, 6)))
	wantErr(t, "Append", s.Append("b", make([]byte, 1)), api.ErrFull)
	wantOK(t, s.Create("c"), s.Rename("c", "b"))
	wantErr(t, "Append", s.Append("b", make([]byte, 1)), api.ErrFull)
	wantOK(t, s.Names(), s.Append("b", make([]byte, 10)))
	wantOK(t, s.Cut("b", 3), s.Append("b", make([]byte, 7)))
	wantErr(t, "Append", s.Append("b", make([]byte, 1)), api.ErrFull)
}

// P5.2: Sync makes all of a file safe, and that of no other one; its name isn't by that.
func TestSync(t *testing.T) {
	s := New(100)
	wantOK(t, s.Create("a"), s.Create("b"), s.Names())
	wantOK(t, s.Append("a", []byte("abc")), s.Append("b", []byte("xyz")), s.Sync("a"), s.Append("a", []byte("def")))
	wantOK(t, s.Create("c"), s.Append("c", []byte("c")), s.Sync("c"))
	s.Fall(0, 0)
	wantFile(t, s, "a", "abc")
	wantFile(t, s, "b", "")
	wantNoFile(t, s, "c")
	wantTold(t, s, "a b", 3, 0)
	wantOK(t, s.Append("b", []byte("1")), s.Sync("b"), s.Sync("b"), s.Append("b", []byte("2")))
	s.Fall(0, 0)
	wantFile(t, s, "b", "1")
}

// P5.2: Names makes names safe as they are, and nothing of what stands in files.
func TestNames(t *testing.T) {
	s := New(100)
	wantOK(t, s.Names())
	wantTold(t, s, "", 0, 0)
	wantOK(t, s.Create("a"), s.Append("a", []byte("abc")), s.Sync("a"), s.Append("a", []byte("d")))
	wantOK(t, s.Create("b"), s.Create("c"), s.Append("c", []byte("c")), s.Delete("c"), s.Rename("b", "d"))
	wantTold(t, s, "a d", 5, 5)
	wantOK(t, s.Names())
	wantTold(t, s, "a d", 4, 0)
	wantOK(t, s.Delete("a"), s.Rename("d", "a"), s.Create("e"))
	wantTold(t, s, "a e", 4, 3)
	s.Fall(0, 0)
	wantTold(t, s, "a d", 3, 0)
	wantFile(t, s, "a", "abc")
	wantFile(t, s, "d", "")
}

// P5.2: Rename gives a file another name, alone; what had that has it no more.
func TestRename(t *testing.T) {
	s := New(100)
	wantOK(t, s.Create("a"), s.Append("a", []byte("abc")), s.Create("b"), s.Append("b", []byte("xy")))
	wantOK(t, s.Rename("a", "c"))
	wantNoFile(t, s, "a")
	wantFile(t, s, "c", "abc")
	wantTold(t, s, "b c", 5, 3)
	wantErr(t, "Rename of none", s.Rename("a", "c"), api.ErrNone)
	wantOK(t, s.Rename("c", "b"))
	wantNoFile(t, s, "c")
	wantFile(t, s, "b", "abc")
	wantTold(t, s, "b", 5, 4)
	wantOK(t, s.Append("b", []byte("d")), s.Rename("b", "a"), s.Append("a", []byte("e")))
	wantFile(t, s, "a", "abcde")
	wantTold(t, s, "a", 7, 5)
}

// P5.2: of one name nothing changes, if there is such a file.
func TestRenameOfOneName(t *testing.T) {
	s := some()
	wantOK(t, s.Rename("a", "a"), s.Rename("c", "c"))
	wantTold(t, s, "a b c", 5, 1)
	wantFile(t, s, "a", "abc")
	wantErr(t, "Rename of none", s.Rename("none", "none"), api.ErrNone)
	wantTold(t, s, "a b c", 5, 1)
	s.Fall(0, 0)
	wantTold(t, s, "a b", 2, 0)
	wantFile(t, s, "a", "a")
}

// P5.2: Delete takes a file's name, and that of no other one.
func TestDelete(t *testing.T) {
	s := some()
	wantOK(t, s.Delete("a"))
	wantNoFile(t, s, "a")
	wantFile(t, s, "b", "xy")
	wantTold(t, s, "b c", 5, 2)
	wantErr(t, "Delete", s.Delete("a"), api.ErrNone)
	wantErr(t, "Append", s.Append("a", nil), api.ErrNone)
	wantOK(t, s.Delete("b"), s.Delete("c"))
	wantTold(t, s, "", 5, 4)
	wantOK(t, s.Names())
	wantTold(t, s, "", 0, 0)
}

// P5.2: Cut leaves a file's first bytes, safe at once; ErrArg: it has fewer, or n is below 0.
func TestCut(t *testing.T) {
	for n := range 4 {
		s := some()
		wantOK(t, s.Cut("a", n))
		wantFile(t, s, "a", "abc"[:n])
		wantFile(t, s, "b", "xy")
		wantTold(t, s, "a b c", n+2, 1)
		wantOK(t, s.Append("a", []byte("12")))
		wantFile(t, s, "a", "abc"[:n]+"12")
		s.Fall(0, 0)
		wantFile(t, s, "a", "abc"[:n])
		wantTold(t, s, "a b", n+1, 0)
	}
	for _, n := range []int{4, 5, -1, -2, -3, math.MaxInt, math.MinInt, math.MaxInt32, math.MinInt32} {
		s := some()
		wantErr(t, "Cut", s.Cut("a", n), api.ErrArg)
		wantErr(t, "Cut of none", s.Cut("none", n), api.ErrNone)
		wantFile(t, s, "a", "abc")
		wantTold(t, s, "a b c", 5, 1)
		s.Fall(0, 0)
		wantFile(t, s, "a", "a")
	}
	s := some()
	wantOK(t, s.Cut("c", 0))
	wantErr(t, "Cut of an empty one", s.Cut("c", 1), api.ErrArg)
}

// P5.2: what stays of a file that was cut, or fell, can't grow into what was cut off.
func TestNoGrowth(t *testing.T) {
	s := some()
	f := s.names["a"]
	whole := f.p
	wantOK(t, s.Cut("a", 2), s.Append("a", []byte("X")))
	if string(whole) != "abc" {
		t.Errorf("cut: written over: %q", whole)
	}
	s = some()
	f = s.names["a"]
	whole = f.p
	s.Fall(0, 1)
	wantOK(t, s.Append("a", []byte("X")))
	wantFile(t, s, "a", "abX")
	if string(whole) != "abc" {
		t.Errorf("fallen: written over: %q", whole)
	}
}

// P5.3: List tells names alone, rising.
func TestList(t *testing.T) {
	s := New(0)
	if len(s.List()) != 0 {
		t.Errorf("List of none: %q", s.List())
	}
	rising := []string{".", "..", ".a", "0", "1", "10", "2", "9", "a", "a.", "a0", "aa", "b", "index", "v.1", "v.10", "v.2", "z", "zz"}
	for i := range rising {
		wantOK(t, s.Create(rising[(i*7)%len(rising)]))
	}
	if !slices.Equal(s.List(), rising) {
		t.Errorf("List: %q", s.List())
	}
	wantOK(t, s.Delete("10"), s.Rename("2", "z"))
	wantTold(t, s, ". .. .a 0 1 9 a a. a0 aa b index v.1 v.10 v.2 z zz", 0, len(rising)+2)
}

// P5.3: Used counts each file once that has a name, or had one when names were safe, or since.
func TestUsed(t *testing.T) {
	s := New(1000)
	wantOK(t, s.Create("a"), s.Append("a", make([]byte, 1)), s.Create("b"), s.Append("b", make([]byte, 10)), s.Names())
	wantTold(t, s, "a b", 11, 0)
	wantOK(t, s.Rename("a", "c"), s.Rename("c", "d"), s.Rename("d", "a"))
	wantTold(t, s, "a b", 11, 3)
	wantOK(t, s.Delete("b"), s.Create("b"), s.Append("b", make([]byte, 100)))
	wantTold(t, s, "a b", 111, 5)
	wantOK(t, s.Delete("b"), s.Create("b"), s.Append("b", make([]byte, 200)), s.Rename("a", "b"))
	wantTold(t, s, "b", 311, 8)
	wantOK(t, s.Cut("b", 0))
	wantTold(t, s, "b", 310, 8)
	s.Arm(0)
	wantErr(t, "armed", s.Names(), api.ErrStop)
	wantTold(t, s, "", 310, 8)
	s.Fall(7, 999)
	wantTold(t, s, "a b", 200, 0)
}

// P5.3: Moves counts each Create, Delete, and Rename of two names, since names were safe; refused ones aren't.
func TestMoves(t *testing.T) {
	s := New(10)
	moves := func(want int, e, wantE api.Errno) {
		t.Helper()
		if s.Moves() != want || e != wantE {
			t.Errorf("Moves %d, not %d; %d", s.Moves(), want, e)
		}
	}
	moves(1, s.Create("a"), api.OK)
	moves(1, s.Create("a"), api.ErrThere)
	moves(1, s.Create("A"), api.ErrArg)
	moves(1, s.Append("a", []byte("1")), api.OK)
	moves(1, s.Sync("a"), api.OK)
	moves(1, s.Cut("a", 0), api.OK)
	moves(2, s.Rename("a", "b"), api.OK)
	moves(2, s.Rename("a", "b"), api.ErrNone)
	moves(2, s.Rename("b", "b"), api.OK)
	moves(2, s.Rename("b", "B"), api.ErrArg)
	moves(3, s.Create("a"), api.OK)
	moves(4, s.Rename("a", "b"), api.OK)
	moves(5, s.Delete("b"), api.OK)
	moves(5, s.Delete("b"), api.ErrNone)
	moves(0, s.Names(), api.OK)
	moves(1, s.Create("a"), api.OK)
	s.Arm(0)
	moves(1, s.Delete("a"), api.ErrStop)
	s.Fall(0, 0)
	moves(0, api.OK, api.OK)
}

// P5.3: so many acts come further from when a shelf is armed on, whatever they answer, and it falls at the next one.
func TestArm(t *testing.T) {
	for n := range 12 {
		s := some()
		done := s.Done()
		s.Arm(n)
		for i := range n {
			if !s.On() {
				t.Fatalf("Arm(%d): fallen ahead of act %d", n, i)
			}
			switch i % 5 {
			case 0:
				wantOK(t, s.Append("a", nil))
			case 1:
				wantErr(t, "Sync", s.Sync("none"), api.ErrNone)
			case 2:
				wantErr(t, "Create", s.Create("a"), api.ErrThere)
			case 3:
				wantErr(t, "Cut", s.Cut("a", 99), api.ErrArg)
			default:
				wantOK(t, s.Rename("a", "a"))
			}
			wantErr(t, "a wrong name", s.Create("A"), api.ErrArg)
			wantFile(t, s, "a", "abc")
		}
		wantErr(t, "the next one", s.Sync("none"), api.ErrStop)
		if s.Done() != done+n {
			t.Errorf("Arm(%d): Done %d", n, s.Done()-done)
		}
		wantFallen(t, "armed", s)
	}
}

// P5.3: below 0 a shelf isn't armed; to be armed again counts from then on.
func TestArmAgain(t *testing.T) {
	for _, n := range []int{-1, -2, math.MinInt, math.MinInt32} {
		s := some()
		s.Arm(0)
		s.Arm(n)
		for range 100 {
			wantOK(t, s.Sync("a"))
		}
	}
	for _, n := range []int{math.MaxInt, math.MaxInt - 1, math.MaxInt32} {
		s := some()
		s.Arm(n)
		for range 100 {
			wantOK(t, s.Sync("a"))
		}
	}
	s := some()
	s.Arm(1)
	wantOK(t, s.Sync("a"))
	s.Arm(2)
	wantOK(t, s.Sync("a"), s.Sync("a"))
	wantErr(t, "the third one", s.Sync("a"), api.ErrStop)
	s.Arm(-1)
	wantFallen(t, "armed no more", s)
	s.Arm(3)
	wantFallen(t, "armed again", s)
	s.Fall(0, 0)
	for range 9 {
		wantOK(t, s.Sync("a"))
	}
}

// P5.3: Room is how many bytes there may be, from then on, and behind a fall, too.
func TestRoom(t *testing.T) {
	s := New(3)
	wantOK(t, s.Create("a"), s.Append("a", []byte("abc")))
	wantErr(t, "no room", s.Append("a", []byte("d")), api.ErrFull)
	s.Room(5)
	wantErr(t, "one beyond", s.Append("a", []byte("def")), api.ErrFull)
	wantOK(t, s.Append("a", []byte("de")), s.Sync("a"), s.Names())
	for _, n := range []int{4, 1, 0, -1, math.MinInt32, math.MinInt} {
		s.Room(n)
		wantErr(t, "less room than is used", s.Append("a", []byte("f")), api.ErrFull)
		wantErr(t, "none has more bytes than less than no room", s.Append("a", nil), api.ErrFull)
		wantFile(t, s, "a", "abcde")
		wantTold(t, s, "a", 5, 0)
	}
	s.Room(6)
	s.Fall(0, 0)
	wantErr(t, "one beyond", s.Append("a", []byte("fg")), api.ErrFull)
	wantOK(t, s.Append("a", []byte("f")))
	for _, n := range []int{math.MaxInt, math.MaxInt32} {
		s.Room(n)
		wantOK(t, s.Append("a", []byte("much")))
	}
	for _, n := range []int{-1, math.MinInt} {
		s = New(n)
		wantOK(t, s.Create("a"))
		wantErr(t, "no room at all", s.Append("a", []byte("a")), api.ErrFull)
	}
}

// P5.4: of what was done to names the first so many stay, whether the shelf had fallen or not.
func TestFallNames(t *testing.T) {
	lists := []string{"a b", "a b c", "a c", "c", "d", "d e", "e"}
	files := []string{"a=a b=b ", "a=a b=b c= ", "a=b c= ", "c=b ", "d=b ", "d=b e= ", "e=b "}
	for n := -2; n < 10; n++ {
		for _, falls := range []bool{false, true} {
			s := New(100)
			wantOK(t, s.Create("a"), s.Append("a", []byte("a")), s.Create("b"), s.Append("b", []byte("b")), s.Names())
			wantOK(t, s.Create("c"), s.Rename("b", "a"), s.Rename("a", "c"), s.Rename("c", "d"), s.Create("e"), s.Rename("d", "e"))
			wantTold(t, s, "e", 2, 6)
			if falls {
				s.Arm(0)
				s.Names()
			}
			s.Fall(n, 1)
			at := min(max(n, 0), 6)
			got := ""
			for _, name := range s.List() {
				p, _ := s.Read(name)
				got += name + "=" + string(p) + " "
			}
			if got != files[at] || !s.On() || s.Done() != 11 {
				t.Errorf("Fall(%d): %q, not %q; Done %d", n, got, files[at], s.Done())
			}
			used := strings.Count(got, "=a") + strings.Count(got, "=b")
			wantTold(t, s, lists[at], used, 0)
			wantOK(t, s.Delete(s.List()[0]))
			s.Fall(0, 0)
			wantTold(t, s, lists[at], used, 0)
		}
	}
}

// P5.4: of each file what is safe stays, and at most so many bytes behind it; that is all safe then.
func TestFallBytes(t *testing.T) {
	for _, n := range append(edges, 3, 4, 5) {
		s := New(100)
		wantOK(t, s.Create("a"), s.Append("a", []byte("abc")), s.Sync("a"), s.Append("a", []byte("defg")))
		wantOK(t, s.Create("b"), s.Append("b", []byte("x")), s.Create("c"), s.Append("c", []byte("yz")), s.Sync("c"), s.Names())
		more := max(n, 0)
		a, b := "abc"+"defg"[:min(more, 4)], "x"[:min(more, 1)]
		s.Fall(0, n)
		for range 2 {
			wantFile(t, s, "a", a)
			wantFile(t, s, "b", b)
			wantFile(t, s, "c", "yz")
			wantTold(t, s, "a b c", len(a+b)+2, 0)
			s.Fall(0, 0)
		}
		wantOK(t, s.Append("a", []byte("!")), s.Append("b", []byte("?")))
		wantFile(t, s, "a", a+"!")
		wantFile(t, s, "b", b+"?")
		s.Fall(0, 0)
		wantFile(t, s, "a", a)
	}
}

// P5.4: a file that a fall brings back has of what it had when it went what was safe, and so many bytes more.
func TestFallBringsBack(t *testing.T) {
	for n := range 3 {
		s := some()
		wantOK(t, s.Append("a", []byte("d")), s.Delete("a"), s.Create("a"), s.Append("a", []byte("other")), s.Sync("a"))
		wantTold(t, s, "a b c", 11, 3)
		s.Fall(n, 2)
		if n == 2 {
			wantNoFile(t, s, "a")
			continue
		}
		wantFile(t, s, "a", "abc")
		wantOK(t, s.Append("a", []byte("!")))
		wantFile(t, s, "a", "abc!")
	}
	s := some()
	wantOK(t, s.Append("a", []byte("d")), s.Rename("b", "a"), s.Cut("a", 0))
	s.Fall(0, 9)
	wantFile(t, s, "a", "abcd")
	wantFile(t, s, "b", "")
	wantTold(t, s, "a b", 4, 0)
}

// P5.4: what was forgotten by a fall doesn't come back by another one, and takes no room.
func TestFallForgets(t *testing.T) {
	s := New(10)
	wantOK(t, s.Create("a"), s.Append("a", make([]byte, 10)), s.Sync("a"))
	s.Fall(0, 99)
	wantTold(t, s, "", 0, 0)
	s.Fall(99, 99)
	wantTold(t, s, "", 0, 0)
	wantOK(t, s.Create("b"), s.Append("b", make([]byte, 10)))
	s.Fall(1, 4)
	wantTold(t, s, "b", 4, 0)
	s.Fall(99, 99)
	wantTold(t, s, "b", 4, 0)
	wantOK(t, s.Append("b", make([]byte, 6)))
	wantErr(t, "no room", s.Append("b", make([]byte, 1)), api.ErrFull)
}

// P5.4: behind a fall a shelf hasn't fallen, and isn't armed, were it armed ahead of it or behind.
func TestFallDisarms(t *testing.T) {
	for n := range 3 {
		s := some()
		s.Arm(n)
		s.Fall(9, 9)
		for range 9 {
			wantOK(t, s.Sync("a"))
		}
		s.Arm(1)
		wantOK(t, s.Sync("a"))
		wantErr(t, "armed again", s.Sync("a"), api.ErrStop)
		wantFallen(t, "armed again", s)
	}
}

// P5.4: of a nil Shelf: ErrStop, nothing; ErrStop goes ahead of all.
func TestNilShelf(t *testing.T) {
	var s *Shelf
	for range 2 {
		wantFallen(t, "nil", s)
		if s.Done() != 0 || s.Used() != 0 || s.Moves() != 0 {
			t.Errorf("nil: Done %d, Used %d, Moves %d", s.Done(), s.Used(), s.Moves())
		}
		for _, name := range append(wrongNames, "a") {
			l := []api.Errno{s.Create(name), s.Append(name, nil), s.Append(name, []byte("p")), s.Sync(name), s.Rename(name, name), s.Rename("a", name), s.Rename(name, "a"), s.Delete(name), s.Cut(name, 0), s.Cut(name, -1), s.Names()}
			for i, e := range l {
				if e != api.ErrStop {
					t.Errorf("nil: act %d of %q: %d", i, name, e)
				}
			}
		}
		for _, n := range edges {
			s.Arm(n)
			s.Room(n)
			s.Fall(n, n)
		}
	}
}

// The rule of memory: what was handed in, and told, may be written over, and appended to.
func TestMemory(t *testing.T) {
	s := New(100)
	wantOK(t, s.Create("a"), s.Create("b"))
	p := []byte("abcdef")
	wantOK(t, s.Append("a", p[:3]), s.Append("b", p[:3]))
	if string(p) != "abcdef" {
		t.Errorf("Append: changed what was handed in: %q", p)
	}
	clear(p)
	wantFile(t, s, "a", "abc")
	one, _ := s.Read("a")
	two, _ := s.Read("a")
	_ = append(one, "1234567890"...)
	copy(one, "XYZ")
	wantFile(t, s, "a", "abc")
	wantOK(t, s.Append("a", []byte("def")), s.Append("b", one))
	wantFile(t, s, "a", "abcdef")
	wantFile(t, s, "b", "abcXYZ")
	wantOK(t, s.Cut("a", 1), s.Append("a", []byte("12")))
	if string(two) != "abc" || string(one) != "XYZ" {
		t.Errorf("Read: an answer changed: %q, %q", one, two)
	}
	l := s.List()
	_ = append(l, "c")
	clear(l)
	wantTold(t, s, "a b", 9, 2)
}

// P1: a Shelf that New didn't make is one without room; none of its calls panics.
func TestZeroShelf(t *testing.T) {
	for _, x := range acts() {
		var s Shelf
		if x.do(&s) == api.ErrStop || !s.On() || s.Done() != 1 {
			t.Errorf("%s: On %v, Done %d", x.name, s.On(), s.Done())
		}
	}
	var s Shelf
	s.Fall(1, 1)
	wantTold(t, &s, "", 0, 0)
	wantOK(t, s.Names(), s.Create("a"), s.Append("a", nil))
	wantErr(t, "no room", s.Append("a", []byte("a")), api.ErrFull)
	wantTold(t, &s, "a", 0, 1)
}

// P1: calls end at any numbers.
func TestEdges(t *testing.T) {
	for _, room := range edges {
		for _, n := range edges {
			s := New(room)
			s.Create("a")
			s.Append("a", []byte("abc"))
			s.Cut("a", n)
			s.Room(n)
			s.Append("a", nil)
			s.Arm(n)
			s.Delete("a")
			s.Fall(room, n)
			if !s.On() || len(s.List()) > 1 || s.Used() < 0 || s.Used() > 3 || s.Moves() != 0 {
				t.Errorf("room %d, %d: List %q, Used %d, Moves %d", room, n, s.List(), s.Used(), s.Moves())
			}
		}
	}
}

// P1: many files, with names made safe again and again, come to an end soon.
func TestMany(t *testing.T) {
	const many = 30000
	s := New(math.MaxInt)
	used := many
	for i := range many {
		name := "v." + strconv.Itoa(i)
		used += len(name)
		if s.Create(name) != api.OK || s.Append(name, []byte(name)) != api.OK || s.Sync(name) != api.OK || s.Names() != api.OK {
			t.Fatalf("file %d", i)
		}
	}
	for i := range many {
		if s.Append("v.0", []byte("1")) != api.OK || i > 0 && s.Delete("v."+strconv.Itoa(i)) != api.OK {
			t.Fatalf("file %d", i)
		}
	}
	wantTold(t, s, "v.0", used, many-1)
	wantOK(t, s.Names())
	wantTold(t, s, "v.0", 3+many, 0)
	p, _ := s.Read("v.0")
	if !bytes.Equal(p, []byte("v.0"+strings.Repeat("1", many))) {
		t.Error("Read: another file")
	}
}

// The chapter's example, and the document's fifth.
func TestExamples(t *testing.T) {
	s := New(1000)
	wantOK(t, s.Create("a"), s.Append("a", []byte("xy")), s.Sync("a"))
	s.Fall(0, 0)
	wantTold(t, s, "", 0, 0)
	s = New(1000)
	wantOK(t, s.Create("a"), s.Append("a", []byte("xy")), s.Sync("a"), s.Names())
	s.Fall(0, 0)
	wantFile(t, s, "a", "xy")
	s = New(1000)
	wantOK(t, s.Create("a"))
	s.Fall(0, 0)
	wantTold(t, s, "", 0, 0)
}
