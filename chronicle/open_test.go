package chronicle

import (
	"maps"
	"math"
	"strings"
	"testing"

	"milestone/api"
	"milestone/shelf"
)

// wantNone asks that Open answers an error, and that nothing has changed on the shelf, but how many acts it has done.
func wantNone(t *testing.T, s *shelf.Shelf, want api.Errno) {
	t.Helper()
	files, used, moves := filesOf(s), s.Used(), s.Moves()
	c, e := Open(s, 30)
	if c != nil || e != want {
		t.Fatalf("Open of %q: %v, %d, not %d", files, c, e, want)
	}
	wantFiles(t, s, files)
	if s.Used() != used || s.Moves() != moves {
		t.Fatalf("Open of %q: Used %d, Moves %d", files, s.Used(), s.Moves())
	}
}

// wantGoesOn asks that what a chronicle is told next is there behind a fall, and follows what it had.
func wantGoesOn(t *testing.T, s *shelf.Shelf, c *Chronicle) {
	t.Helper()
	l, first := c.Records()
	next := first + uint64(len(l))
	var want []record
	for _, item := range l {
		want = append(want, record{item.Kind, string(item.P)})
	}
	for _, p := range []string{"goes", "on", ""} {
		if c.Next() != next {
			t.Fatalf("Next: %d, not %d (%q)", c.Next(), next, filesOf(s))
		}
		if no, e := c.Append('g', []byte(p)); no != next || e != api.OK {
			t.Fatalf("Append: %d, %d, not %d (%q)", no, e, next, filesOf(s))
		}
		next++
		want = append(want, record{'g', p})
	}
	wantErr(t, "Sync", c.Sync(), api.OK)
	s.Fall(0, 0)
	wantRecords(t, wantOpen(t, s, 30), want, first)
}

// P10.2: a new chronicle: its index is safe, and takes just as much room as it has.
func TestOpenNew(t *testing.T) {
	size := len(indexOf(1, 0, 0))
	s := shelf.New(size)
	wantLike(t, s, wantOpen(t, s, 10), newModel(10))
	s.Fall(0, 0)
	wantLike(t, s, wantOpen(t, s, 10), newModel(10))
	for room := -1; room < size; room++ {
		s := shelf.New(room)
		wantNone(t, s, api.ErrFull)
		wantNone(t, s, api.ErrFull)
		s.Room(size)
		wantLike(t, s, wantOpen(t, s, 10), newModel(10))
	}
}

// P10.2: shelves that are none, or have fallen.
func TestOpenStop(t *testing.T) {
	wantNone(t, nil, api.ErrStop)
	s, _, _ := filled(t, plenty, 30, 5)
	s.Arm(0)
	s.Names()
	wantNone(t, s, api.ErrStop)
}

// P10.2: where all is right, and there is nothing else, Open does nothing.
func TestOpenDoesNothing(t *testing.T) {
	for _, most := range mosts {
		s, c, m := filled(t, plenty, most, 9)
		wantFolded(t, c, m, 4, "base")
		done := s.Done()
		wantLike(t, s, wantOpen(t, s, most), m)
		if s.Done() != done {
			t.Errorf("most %d: %d acts", most, s.Done()-done)
		}
	}
}

// whole are the files of a chronicle of two bases, and of three volumes, the first of which begins ahead of the base's end.
func whole() map[string]string {
	m := newModel(40)
	for _, r := range some(4) {
		m.append(r)
	}
	m.fold(2, "the first base")
	for _, r := range some(9)[4:] {
		m.append(r)
	}
	m.fold(5, "the base")
	return m.files()
}

// but is some files, of which one has other bytes.
func but(files map[string]string, name, p string) map[string]string {
	l := maps.Clone(files)
	l[name] = p
	return l
}

// spoilt are bytes with one bit turned, or the end cut off.
func spoilt(p string) []string {
	var l []string
	for i := range p {
		for bit := range 8 {
			q := []byte(p)
			q[i] ^= 1 << bit
			l = append(l, string(q))
		}
		l = append(l, p[:i])
	}
	return l
}

// longer are bytes with something behind.
func longer(p string) []string {
	return []string{p + "\x00", p + p, p + written('k', "")}
}

// P10.2: an index that isn't right.
func TestOpenWrongIndex(t *testing.T) {
	files := whole()
	wrong := append(spoilt(files["index"]), longer(files["index"])...)
	for _, p := range []string{"", "\x00", number(0), numbers(3), numbers(2, 2), numbers(2, 2, 5, 0), "\xff", numbers(2, 2) + "\x80\x05", "\x80\x02" + numbers(2, 5), numbers(2, 2) + "\xff\x00\x00\x00\x00\x00\x00\x00\x05"} {
		wrong = append(wrong, written(0x4c, p))
	}
	for _, kind := range []byte{0, 0x4b, 0x4d, 0x54, 0x62, 0x6c, 0xcc, 0xff} {
		wrong = append(wrong, written(kind, numbers(2, 2, 5)))
	}
	for _, p := range wrong {
		wantNone(t, shelfOf(but(files, "index", p)), api.ErrForm)
	}
}

// P10.2: an index tells wrong if the base of which it tells isn't there, or isn't right.
func TestOpenWrongBase(t *testing.T) {
	files := whole()
	wrong := append(spoilt(files["b.2"]), longer(files["b.2"])...)
	for _, kind := range []byte{0, 0x4c, 0x54, 0x61, 0x63, 0x42} {
		wrong = append(wrong, written(kind, "the base"))
	}
	for _, p := range wrong {
		wantNone(t, shelfOf(but(files, "b.2", p)), api.ErrForm)
	}
	delete(files, "b.2")
	files["b.1"] = baseOf("the first base")
	wantNone(t, shelfOf(files), api.ErrForm)
	wantNone(t, shelfOf(map[string]string{"index": indexOf(1, 1, 1)}), api.ErrForm)
}

// P10.2: other files are deleted, and are so behind a fall.
func TestOpenOthers(t *testing.T) {
	files := whole()
	first, last := uint64(math.MaxUint64), uint64(0)
	for no := range uint64(20) {
		if files[volumeName(no)] != "" {
			first, last = min(first, no), max(last, no)
		}
	}
	others := []string{"index.new", "index.", "index.new.new", "a", "0", ".", "v", "v.", "v.x", "v.01", "v.0", "b", "b.", "b.0", "b.1", "b.3", "b.02", "zzz", volumeName(first - 1), volumeName(last + 2), "v.18446744073709551615", "v.18446744073709551617"}
	for _, p := range []string{"", "x", titleOf(last+1, 99), indexOf(1, 0, 0)} {
		all := maps.Clone(files)
		for _, name := range others {
			all[name] = p
		}
		s := shelfOf(all)
		wantOpen(t, s, 40)
		wantFiles(t, s, files)
		if size := s.Used(); size != wantOpen(t, s, 40).Bytes() {
			t.Errorf("Used: %d", size)
		}
		s.Fall(0, 0)
		wantFiles(t, s, files)
		wantGoesOn(t, s, wantOpen(t, s, 40))
	}
}

// P10.2: without an index there is a new one, and other files are deleted, what a fall left of an index among them. They don't take its room.
func TestOpenOthersNoIndex(t *testing.T) {
	for _, p := range []string{"", "x", indexOf(1, 0, 0), strings.Repeat("x", 100)} {
		s := shelfOf(map[string]string{"index.new": p, "b.0": baseOf("b"), "b.1": baseOf("b"), "v.2": titleOf(2, 1), "v.1": "x" + titleOf(1, 1), "v.0": titleOf(0, 1)})
		s.Room(len(indexOf(1, 0, 0)))
		wantLike(t, s, wantOpen(t, s, 30), newModel(30))
		s.Room(plenty)
		wantGoesOn(t, s, wantOpen(t, s, 30))
	}
	// A volume that is the first one is taken.
	s := shelfOf(map[string]string{"v.1": titleOf(1, 1) + written('k', "there"), "v.3": titleOf(3, 2)})
	c := wantOpen(t, s, 30)
	wantRecords(t, c, []record{{'k', "there"}}, 1)
	wantFiles(t, s, map[string]string{"index": indexOf(1, 0, 0), "v.1": titleOf(1, 1) + written('k', "there")})
}

// P10.2: names that weren't safe are, and what is Synced then stays.
func TestOpenUnsafe(t *testing.T) {
	s := shelf.New(plenty)
	for name, p := range whole() {
		s.Create(name)
		s.Append(name, []byte(p))
		s.Sync(name)
	}
	wantGoesOn(t, s, wantOpen(t, s, 40))
	// A chronicle is left, and opened anew ahead of a Sync.
	s, _, m := filled(t, plenty, 40, 9)
	c := wantOpen(t, s, 40)
	wantErr(t, "Sync", c.Sync(), api.OK)
	s.Fall(0, 0)
	wantLike(t, s, wantOpen(t, s, 40), m)
}

// volumesOf are volumes as files, beside an index (and a base).
func volumesOf(first, upto uint64, l ...modelVolume) map[string]string {
	files := map[string]string{"index": indexOf(first, min(upto, 1), upto)}
	if upto > 0 {
		files["b.1"] = baseOf("base")
	}
	for _, v := range l {
		files[volumeName(v.no)] = v.file()
	}
	return files
}

// run are records that tell their numbers.
func run(from, n uint64) []record {
	var l []record
	for i := range n {
		l = append(l, record{'r', number(from + i)})
	}
	return l
}

// span is a volume of records that tell their numbers.
func span(no, first, n uint64) modelVolume {
	return modelVolume{no, first, run(first, n)}
}

// P10.2: the first volume begins at Upto + 1, or ahead of it; and none is kept if all that they have is ahead of Upto.
func TestOpenFirstVolume(t *testing.T) {
	for upto := range uint64(8) {
		for first := range uint64(12) {
			for n := range uint64(12) {
				s := shelfOf(volumesOf(3, upto, span(3, first, n)))
				c := wantOpen(t, s, 1000)
				there := first > 0 && first <= upto+1 && first+n > upto
				if there != (len(c.Volumes()) == 1) {
					t.Fatalf("Upto %d, %d records from %d on: %v", upto, n, first, c.Volumes())
				}
				var want []record
				if there {
					want = run(upto+1, first+n-upto-1)
					wantVolumes(t, c, []modelVolume{span(3, first, n)})
				}
				wantRecords(t, c, want, upto+1)
				wantGoesOn(t, s, c)
			}
		}
	}
}

// P10.2: each further volume is the next one, and begins with the record behind the one ahead.
func TestOpenFurtherVolumes(t *testing.T) {
	right := []modelVolume{span(5, 2, 3), span(6, 5, 0), span(7, 5, 1), span(8, 6, 4), span(9, 10, 2)}
	whole := volumesOf(5, 3, right...)
	c := wantOpen(t, shelfOf(whole), 1000)
	wantVolumes(t, c, right)
	wantRecords(t, c, run(4, 8), 4)
	for i, v := range right[1:] {
		ahead := right[:i+1]
		wrong := []string{
			"", "x", titleOf(v.no, v.first+1), titleOf(v.no, v.first-1), titleOf(v.no+1, v.first), titleOf(v.no-1, v.first), titleOf(v.no, 0), titleOf(v.no, math.MaxUint64),
			written(0x55, numbers(v.no, v.first)), written('k', "") + v.file(), v.file()[1:], titleOf(v.no, v.first)[:7],
			written(0x54, numbers(v.no)), written(0x54, numbers(v.no, v.first, 0)), written(0x54, ""), written(0x54, numbers(v.first, v.no)),
		}
		for _, p := range wrong {
			wantCutAt(t, but(whole, volumeName(v.no), p), ahead)
		}
		gone := maps.Clone(whole)
		delete(gone, volumeName(v.no))
		wantCutAt(t, gone, ahead)
		// Nor does one that is elsewhere count.
		gone[volumeName(99)] = v.file()
		wantCutAt(t, gone, ahead)
	}
}

// wantCutAt asks that Open keeps these volumes alone of some files, and goes on from there.
func wantCutAt(t *testing.T, files map[string]string, l []modelVolume) {
	t.Helper()
	s := shelfOf(files)
	c := wantOpen(t, s, 1000)
	wantVolumes(t, c, l)
	wantFiles(t, s, volumesOf(5, 3, l...))
	wantGoesOn(t, s, c)
}

// P10.2: what isn't whole at a volume's end is cut off, be there one behind it that goes on or not; that is safe.
func TestOpenCut(t *testing.T) {
	right := []modelVolume{span(5, 2, 3), span(6, 5, 2), span(7, 7, 3)}
	whole := volumesOf(5, 3, right...)
	for _, v := range right {
		for _, more := range []string{"\x00", "x", "\xff\xff\xff", written('k', "cut")[:8], written('k', "")[1:], written('k', "wrong")[:10] + "\x00", strings.Repeat("\x00", 100)} {
			s := shelfOf(but(whole, volumeName(v.no), v.file()+more))
			c := wantOpen(t, s, 1000)
			wantVolumes(t, c, right)
			wantRecords(t, c, run(4, 6), 4)
			s.Fall(0, 0)
			wantFiles(t, s, whole)
			wantGoesOn(t, s, wantOpen(t, s, 1000))
		}
	}
}

// P10.2: what is whole at a volume's end are records, though frames of titles; behind these the next volume doesn't follow.
func TestOpenLonger(t *testing.T) {
	right := []modelVolume{span(5, 2, 3), span(6, 5, 2)}
	for i, v := range right {
		more := record{0x54, numbers(v.no, v.first)}
		s := shelfOf(but(volumesOf(5, 3, right...), volumeName(v.no), v.file()+written(more.kind, more.p)))
		c := wantOpen(t, s, 1000)
		wantRecords(t, c, append(run(4, v.next()-4), more), 4)
		if len(c.Volumes()) != i+1 {
			t.Errorf("Volumes: %v", c.Volumes())
		}
		wantGoesOn(t, s, c)
	}
}

// P10.2: volumes that are cut anywhere, or of which a bit is turned: the records ahead are there, and no others; what was begun goes on.
func TestOpenSpoilt(t *testing.T) {
	right := []modelVolume{span(5, 2, 5), span(6, 7, 4)}
	for _, upto := range []uint64{1, 2, 4, 6, 7, 9, 10} {
		whole := volumesOf(5, upto, right...)
		for i, v := range right {
			for _, p := range spoilt(v.file()) {
				next := wholeAhead(v, p)
				if next == 0 {
					next = right[0].first // This volume isn't right.
					if i > 0 {
						next = right[i-1].next()
					}
				}
				s := shelfOf(but(whole, volumeName(v.no), p))
				c := wantOpen(t, s, 1000)
				if next <= upto {
					next = upto + 1
				}
				wantRecords(t, c, run(upto+1, next-upto-1), upto+1)
				wantGoesOn(t, s, c)
			}
		}
	}
}

// wholeAhead is the number behind the last record that stands in some bytes as it does in a volume; 0: the title doesn't.
func wholeAhead(v modelVolume, p string) uint64 {
	same := 0
	for file := v.file(); same < min(len(p), len(file)) && p[same] == file[same]; {
		same++
	}
	for n := len(v.l); n >= 0; n-- {
		if ahead := (modelVolume{v.no, v.first, v.l[:n]}); len(ahead.file()) <= same {
			return ahead.next()
		}
	}
	return 0
}

// P1: whatever numbers stand in an index and in volumes, calls end.
func TestOpenHuge(t *testing.T) {
	edges := []uint64{0, 1, 2, 1 << 63, math.MaxUint64 - 1, math.MaxUint64}
	for _, no := range edges {
		for _, upto := range edges {
			for _, first := range edges {
				s := shelfOf(map[string]string{"index": indexOf(no, 0, upto), Name(no): span(no, first, 3).file(), Name(no + 1): span(no+1, first+3, 3).file()})
				c, _ := Open(s, 10)
				c.Records()
				c.Volumes()
				c.Append('k', nil)
				for _, n := range edges {
					c.Fold(n, nil)
				}
				c.Append('k', nil)
				c.Sync()
				c.Bytes()
				Open(s, 10)
			}
		}
	}
}
