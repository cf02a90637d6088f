package chronicle

import (
	"maps"
	"math"
	"slices"
	"strings"
	"testing"

	"milestone/api"
	"milestone/shelf"
)

// tooLong has one byte more than a record may.
var tooLong = make([]byte, api.MaxRecord+1)

// P10.1: names of files; each may be one.
func TestNames(t *testing.T) {
	known := []struct {
		no   uint64
		name string
	}{{0, "0"}, {1, "1"}, {9, "9"}, {10, "10"}, {1234567890, "1234567890"}, {math.MaxInt64 + 1, "9223372036854775808"}, {math.MaxUint64, "18446744073709551615"}}
	for _, x := range known {
		if Name(x.no) != "v."+x.name || Base(x.no) != "b."+x.name {
			t.Errorf("Name(%d) = %q, Base = %q", x.no, Name(x.no), Base(x.no))
		}
		if !shelf.Name(Name(x.no)) || !shelf.Name(Base(x.no)) {
			t.Errorf("%q, %q can't be names", Name(x.no), Base(x.no))
		}
	}
	if Index != "index" {
		t.Error(Index)
	}
}

// P10.1: the files, written out.
func TestFilesKnown(t *testing.T) {
	s := shelf.New(plenty)
	c := wantOpen(t, s, 20)
	wantFiles(t, s, map[string]string{"index": "\x03\x4c\x01\x00\x00\x4d\x59\xc0\x8e"})
	for i, p := range []string{"hi", "ho", ""} {
		if no, e := c.Append('h', []byte(p)); no != uint64(i+1) || e != api.OK {
			t.Fatal(no, e)
		}
	}
	v1 := written('T', "\x01\x01") + "\x02\x68hi\x5e\x83\x8c\xed" + written('h', "ho")
	v2 := written('T', "\x02\x03") + written('h', "")
	wantFiles(t, s, map[string]string{"index": written('L', "\x01\x00\x00"), "v.1": v1, "v.2": v2})
	wantErr(t, "Fold", c.Fold(2, []byte("old")), api.OK)
	wantFiles(t, s, map[string]string{"index": written('L', "\x02\x01\x02"), "v.2": v2, "b.1": written('b', "old")})
	wantErr(t, "Fold", c.Fold(3, nil), api.OK)
	wantFiles(t, s, map[string]string{"index": written('L', "\x02\x02\x03"), "v.2": v2, "b.2": written('b', "")})
}

// P10.1: the example.
func TestExample(t *testing.T) {
	s := shelf.New(1000)
	c := wantOpen(t, s, 100)
	if no, e := c.Append('k', []byte("one")); no != 1 || e != api.OK {
		t.Fatal(no, e)
	}
	wantErr(t, "Sync", c.Sync(), api.OK)
	s.Fall(0, 0)
	wantRecords(t, wantOpen(t, s, 100), []record{{'k', "one"}}, 1)
}

// P10.3: records of all kinds, the titles' and the bases' among them.
func TestKinds(t *testing.T) {
	s := shelf.New(plenty)
	c, m := wantOpen(t, s, 500), newModel(500)
	for kind := range 256 {
		wantAppended(t, c, m, record{byte(kind), numbers(uint64(kind), 1)})
	}
	wantLike(t, s, c, m)
	wantLike(t, s, wantOpen(t, s, 500), m)
}

// P10.3: where a volume ends: it takes a record as long as it has fewer bytes than most.
func TestMost(t *testing.T) {
	title, one := len(titleOf(1, 1)), len(written('k', "12345"))
	for n := range 5 {
		for _, x := range []struct{ most, volumes int }{{title + n*one, 2}, {title + n*one + 1, 1}, {title + n*one - 1, 2}} {
			s := shelf.New(plenty)
			c := wantOpen(t, s, x.most)
			for range n + 1 {
				c.Append('k', []byte("12345"))
			}
			want := x.volumes
			if n == 0 {
				want = 1 // The first record goes into the first volume, be that ever so full of its title.
			}
			if l := c.Volumes(); len(l) != want {
				t.Errorf("most %d: %v, not %d volumes", x.most, l, want)
			}
		}
	}
	for _, most := range []int{math.MinInt, -1, 0, 1, title, title + 1} {
		_, c, _ := filled(t, plenty, most, 6)
		if l := c.Volumes(); len(l) != 6 || l[5].First != 6 {
			t.Errorf("most %d: %v", most, l)
		}
	}
	_, c, _ := filled(t, plenty, math.MaxInt, 200)
	if l := c.Volumes(); len(l) != 1 {
		t.Errorf("most without end: %v", l)
	}
}

// P10.3: all volumes ahead of the last one are safe, and so are names; the last one is when it is Synced.
func TestSafe(t *testing.T) {
	for _, most := range mosts {
		for n := range 12 {
			s, c, m := filled(t, plenty, most, n)
			if s.Moves() != 0 {
				t.Fatalf("most %d, %d records: names aren't safe", most, n)
			}
			ahead := 0
			if l := m.volumes; n > 0 {
				ahead = n - len(l[len(l)-1].l)
			}
			s.Fall(0, 0)
			wantRecords(t, wantOpen(t, s, most), some(n)[:ahead], 1)
			s, c, m = filled(t, plenty, most, n)
			wantErr(t, "Sync", c.Sync(), api.OK)
			s.Fall(0, 0)
			wantLike(t, s, wantOpen(t, s, most), m)
		}
	}
}

// P10.3: a new volume's title is safe ahead of its first record.
func TestTitleSafe(t *testing.T) {
	s, _, _ := filled(t, plenty, 1, 3)
	s.Fall(0, 0)
	if p, e := s.Read("v.3"); e != api.OK || string(p) != titleOf(3, 3) {
		t.Fatalf("v.3: %q, %d", p, e)
	}
	c := wantOpen(t, s, 1)
	wantVolumes(t, c, []modelVolume{{1, 1, some(3)[:1]}, {2, 2, some(3)[1:2]}, {3, 3, nil}})
	if no, e := c.Append('k', nil); no != 3 || e != api.OK {
		t.Fatal(no, e)
	}
	wantVolumes(t, c, []modelVolume{{1, 1, some(3)[:1]}, {2, 2, some(3)[1:2]}, {3, 3, nil}, {4, 3, []record{{'k', ""}}}})
	wantErr(t, "Fold", c.Fold(2, nil), api.OK)
	if c.Head().First != 4 || len(c.Volumes()) != 1 {
		t.Errorf("behind Fold: %v, %v", c.Head(), c.Volumes())
	}
	wantErr(t, "Sync", c.Sync(), api.OK)
	s.Fall(0, 0)
	wantRecords(t, wantOpen(t, s, 1), []record{{'k', ""}}, 3)
}

// P10.3: Sync where nothing is.
func TestSyncNothing(t *testing.T) {
	s := shelf.New(plenty)
	c := wantOpen(t, s, 10)
	wantErr(t, "Sync", c.Sync(), api.OK)
	wantLike(t, s, c, newModel(10))
}

// P10.3: the longest record, and one that is longer.
func TestLongRecord(t *testing.T) {
	s := shelf.New(plenty)
	c, m := wantOpen(t, s, 100), newModel(100)
	long := strings.Repeat("x", api.MaxRecord)
	wantAppended(t, c, m, record{'k', long})
	for range 2 {
		no, e := c.Append('k', []byte(long+"x"))
		if no != 0 || e != api.ErrLong {
			t.Fatal(no, e)
		}
		wantLike(t, s, c, m)
	}
	wantAppended(t, c, m, record{'k', ""})
	wantErr(t, "Fold", c.Fold(1, []byte(long+"x")), api.ErrLong)
	wantErr(t, "Fold", c.Fold(3, []byte(long+"x")), api.ErrArg)
	wantLike(t, s, c, m)
	wantFolded(t, c, m, 1, long)
	wantLike(t, s, c, m)
	wantLike(t, s, wantOpen(t, s, 100), m)
}

// refusedFull asks that a record isn't taken for want of room, and that nothing but Full tells it.
func refusedFull(t *testing.T, s *shelf.Shelf, c *Chronicle, m *model, r record) {
	t.Helper()
	no, e := c.Append(r.kind, []byte(r.p))
	if no != 0 || e != api.ErrFull || !c.Full() {
		t.Fatalf("Append: %d, %d, Full %v", no, e, c.Full())
	}
	full := *c
	full.full = false
	wantLike(t, s, &full, m)
	// Now there would be room, but it stays closed.
	s.Room(plenty)
	for _, x := range []struct {
		p    []byte
		want api.Errno
	}{{nil, api.ErrClosed}, {tooLong[1:], api.ErrClosed}, {tooLong, api.ErrLong}} {
		if no, e := c.Append('k', x.p); no != 0 || e != x.want || !c.Full() {
			t.Fatalf("Append of %d bytes when it is full: %d, %d", len(x.p), no, e)
		}
	}
	wantLike(t, s, &full, m)
	wantErr(t, "Sync", c.Sync(), api.OK)
}

// P10.3: a record takes just as much room as it and a new volume's title have; if there is less, nothing has happened.
func TestAppendRoom(t *testing.T) {
	for _, most := range mosts {
		for n := range 8 {
			r := record{'k', "what comes"}
			_, _, after := filled(t, plenty, most, n)
			after.append(r)
			need := 0
			for _, p := range after.files() {
				need += len(p)
			}
			for short := range 40 {
				s, c, m := filled(t, plenty, most, n)
				if s.Room(need - short); short == 0 {
					wantAppended(t, c, m, r)
					wantLike(t, s, c, m)
					continue
				}
				refusedFull(t, s, c, m, r)
				// Nor has anything happened when it is opened anew; that isn't full.
				c = wantOpen(t, s, most)
				wantLike(t, s, c, m)
				wantAppended(t, c, m, r)
				wantLike(t, s, c, m)
			}
		}
	}
}

// P10.4: Fold opens what was closed.
func TestFoldOpensFull(t *testing.T) {
	for _, most := range mosts {
		s, c, m := filled(t, plenty, most, 6)
		s.Room(s.Used())
		refusedFull(t, s, c, m, record{'k', ""})
		wantErr(t, "Fold", c.Fold(9, nil), api.ErrArg)
		wantErr(t, "Fold", c.Fold(2, tooLong), api.ErrLong)
		s.Room(s.Used())
		wantErr(t, "Fold", c.Fold(2, nil), api.ErrFull)
		if !c.Full() {
			t.Fatal("a Fold that didn't happen opened it")
		}
		s.Room(plenty)
		wantFolded(t, c, m, 2, "base")
		wantLike(t, s, c, m)
		wantAppended(t, c, m, record{'k', "more"})
		wantLike(t, s, c, m)
	}
}

// P10.4: Fold at each record, behind each other Fold.
func TestFold(t *testing.T) {
	for _, most := range mosts {
		for first := range uint64(11) {
			for second := range uint64(11) {
				s, c, m := filled(t, plenty, most, 10)
				if first > 0 {
					wantFolded(t, c, m, first, "first")
					wantLike(t, s, c, m)
				}
				for _, upto := range []uint64{0, first, 11, 12, math.MaxUint64} {
					wantErr(t, "Fold", c.Fold(upto, []byte("no")), api.ErrArg)
					wantErr(t, "Fold", c.Fold(upto, tooLong), api.ErrArg)
				}
				if second <= first {
					wantErr(t, "Fold", c.Fold(second, []byte("no")), api.ErrArg)
				} else {
					wantFolded(t, c, m, second, "")
				}
				wantLike(t, s, c, m)
				wantLike(t, s, wantOpen(t, s, most), m)
			}
		}
	}
}

// P10.4: where nothing ever was there is nothing to fold, and no base.
func TestFoldNothing(t *testing.T) {
	s := shelf.New(plenty)
	c := wantOpen(t, s, 10)
	for _, upto := range []uint64{0, 1, 2, math.MaxUint64} {
		wantErr(t, "Fold", c.Fold(upto, nil), api.ErrArg)
	}
	wantLike(t, s, c, newModel(10))
}

// P10.4: behind a Fold all is safe, what stays of the records too.
func TestFoldSafe(t *testing.T) {
	for _, most := range mosts {
		for upto := range uint64(10) {
			s, c, m := filled(t, plenty, most, 10)
			wantFolded(t, c, m, upto+1, "base")
			s.Fall(0, 0)
			wantLike(t, s, wantOpen(t, s, most), m)
		}
	}
}

// P10.4: a Fold takes just as much room as the base and the index have beside all that is there; if there is less, nothing has happened.
func TestFoldRoom(t *testing.T) {
	for _, most := range []int{1, 30, plenty} {
		for _, folded := range []bool{false, true} {
			s, c, m := filled(t, plenty, most, 8)
			if folded {
				wantFolded(t, c, m, 3, "the base ahead")
			}
			later := m.copy()
			later.fold(5, "a base")
			need := s.Used() + len(baseOf("a base")) + len(later.files()["index"])
			for short := range need - s.Used() + 1 {
				if s.Room(need - short); short == 0 {
					continue
				}
				wantErr(t, "Fold", c.Fold(5, []byte("a base")), api.ErrFull)
				wantLike(t, s, c, m)
			}
			before := filesOf(s)
			s.Fall(100, plenty)
			wantFiles(t, s, before)
			s.Room(need)
			wantErr(t, "Fold", c.Fold(5, []byte("a base")), api.OK)
			wantLike(t, s, c, later)
		}
	}
}

// P10.3, P10.4: what is handed in isn't kept, and what is answered is the caller's own.
func TestMemory(t *testing.T) {
	s, c, m := filled(t, plenty, 30, 9)
	p := []byte("what is handed in")
	m.append(record{'k', string(p)})
	if _, e := c.Append('k', p); e != api.OK {
		t.Fatal(e)
	}
	clear(p)
	base := []byte("a base")
	wantFolded(t, c, m, 4, string(base))
	c.Fold(5, base)
	m.fold(5, string(base))
	clear(base)
	wantLike(t, s, c, m)
	for range 2 {
		l, _ := c.Records()
		for _, item := range l {
			clear(item.P)
			_ = append(item.P, "over"...)
		}
		clear(l)
		b, _ := c.Base()
		clear(b)
		v := c.Volumes()
		_ = append(v[:1], Volume{No: 77})
		clear(v)
		wantLike(t, s, c, m)
	}
	// What was answered doesn't change by what is told later.
	l, first := c.Records()
	want := slices.Clone(l)
	wantFolded(t, c, m, 7, "later")
	wantAppended(t, c, m, record{'k', "later"})
	if first != 6 || len(l) != 5 || string(l[4].P) != "what is handed in" || l[0].At != want[0].At {
		t.Errorf("%v from %d on", l, first)
	}
}

// P10.4: of a nil Chronicle. P1: nor does one panic that Open didn't make.
func TestNil(t *testing.T) {
	var c *Chronicle
	for _, p := range [][]byte{nil, {}, []byte("p"), tooLong} {
		if no, e := c.Append('k', p); no != 0 || e != api.ErrNone {
			t.Error("Append", no, e)
		}
		for _, upto := range []uint64{0, 1, math.MaxUint64} {
			wantErr(t, "Fold", c.Fold(upto, p), api.ErrNone)
		}
	}
	wantErr(t, "Sync", c.Sync(), api.ErrNone)
	if l, first := c.Records(); len(l) != 0 || first != 0 {
		t.Error("Records", l, first)
	}
	if p, e := c.Base(); len(p) != 0 || e != api.ErrNone {
		t.Error("Base", p, e)
	}
	if c.Next() != 0 || c.Head() != (Head{}) || len(c.Volumes()) != 0 || c.Full() || c.Bytes() != 0 {
		t.Error(c.Next(), c.Head(), c.Volumes(), c.Full(), c.Bytes())
	}
	c = &Chronicle{}
	c.Append('k', nil)
	c.Fold(0, nil)
	c.Fold(1, nil)
	c.Sync()
	c.Records()
	c.Base()
	c.Volumes()
	c.Bytes()
}

// P10.3, P10.4, P1: on a shelf that has fallen all calls end, and acts tell it.
func TestFallen(t *testing.T) {
	for _, most := range mosts {
		s, c, _ := filled(t, plenty, most, 5)
		s.Arm(0)
		if no, e := c.Append('k', nil); no != 0 || e != api.ErrStop {
			t.Error("Append", no, e)
		}
		wantErr(t, "Sync", c.Sync(), api.ErrStop)
		wantErr(t, "Fold", c.Fold(2, nil), api.ErrStop)
		c.Records()
		c.Base()
		c.Volumes()
		c.Bytes()
		c.Next()
		c.Full()
		if d, e := Open(s, most); d != nil || e != api.ErrStop {
			t.Error("Open", d, e)
		}
	}
}

// P2: the same calls lead to the same answers, and to the same files.
func TestSame(t *testing.T) {
	s, c, _ := filled(t, plenty, 30, 20)
	for range 5 {
		r, d, _ := filled(t, plenty, 30, 20)
		if !maps.Equal(filesOf(s), filesOf(r)) || c.Bytes() != d.Bytes() || s.Done() != r.Done() {
			t.Fatal("unlike")
		}
	}
}
