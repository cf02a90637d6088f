package archive

import (
	"maps"
	"math"
	"slices"
	"strconv"
	"strings"
	"testing"

	"milestone/api"
	"milestone/shelf"
)

// anyConfig is one with which an archive may be opened.
var anyConfig = Config{100, 5}

// record is a record's kind and bytes.
type record struct {
	kind byte
	p    string
}

// recordsOf are records of changes that follow a first one ahead.
func recordsOf(last api.Change, l ...api.Change) []record {
	var r []record
	for _, c := range l {
		r = append(r, record{'D', changeOf(last, c)})
		last = c
	}
	return r
}

// chronicleOf are the files of a chronicle of some records, in volumes of so many, behind a base (empty: none) that has
// as many records as is told.
func chronicleOf(each int, base string, upto int, l []record) map[string]string {
	files := map[string]string{"index": written('L', numbers(1, 1, uint64(upto))), "b.1": written('b', base)}
	if base == "" {
		files, upto = map[string]string{"index": written('L', numbers(1, 0, 0))}, 0
	}
	for no := 1; len(l) > 0; no++ {
		v := volume{no: no, first: upto + 1}
		for _, r := range l[:min(each, len(l))] {
			v.l = append(v.l, written(r.kind, r.p))
		}
		files["v."+strconv.Itoa(no)] = v.file()
		upto += len(v.l)
		l = l[len(v.l):]
	}
	return files
}

// refusedForm asks that Open finds no archive in some files, and that nothing has changed by that.
func refusedForm(t *testing.T, what string, files map[string]string) {
	t.Helper()
	// Beside what isn't right stands what a right chronicle would cut off, or delete.
	more := maps.Clone(files)
	more["index.new"], more["v.77"] = "what a fall left", "old"
	for no := len(files); no > 0; no-- {
		if _, ok := files["v."+strconv.Itoa(no)]; ok {
			more["v."+strconv.Itoa(no)] += "\x03Dx"
			break
		}
	}
	for _, x := range []map[string]string{files, more} {
		s := shelfOf(x)
		done := s.Done()
		a, e := Open(s, anyConfig)
		if a != nil || e != api.ErrForm {
			t.Errorf("%s: %v, %d", what, a, e)
		}
		wantFiles(t, s, x)
		if s.Done() != done || s.Moves() != 0 {
			t.Errorf("%s: %d acts were done", what, s.Done()-done)
		}
		// The form goes ahead of what else may go wrong.
		s.Arm(0)
		if _, e := Open(s, anyConfig); e != api.ErrForm {
			t.Errorf("%s, on a shelf that would fall: %d", what, e)
		}
	}
}

// P11.1: numbers below 1 go first; then that there is no shelf.
func TestOpenRefused(t *testing.T) {
	fallen := shelf.New(plenty)
	fallen.Arm(0)
	fallen.Names()
	for _, n := range []int{math.MinInt, -1, 0} {
		for _, c := range []Config{{n, 1}, {1, n}, {n, n}} {
			for _, s := range []*shelf.Shelf{nil, fallen, shelf.New(0), shelf.New(plenty), shelfOf(map[string]string{"index": "?"})} {
				if a, e := Open(s, c); a != nil || e != api.ErrArg {
					t.Errorf("Open with %v: %v, %d", c, a, e)
				}
				if s.List() != nil && len(s.List()) != 1 {
					t.Errorf("files: %v", s.List())
				}
			}
		}
	}
	for _, c := range configs {
		if a, e := Open(nil, c); a != nil || e != api.ErrNone {
			t.Errorf("Open without a shelf: %v, %d", a, e)
		}
		if a, e := Open(fallen, c); a != nil || e != api.ErrStop {
			t.Errorf("Open of a fallen one: %v, %d", a, e)
		}
		s := shelf.New(len(written('L', "\x01\x00\x00")) - 1)
		if a, e := Open(s, c); a != nil || e != api.ErrFull || len(s.List()) != 0 {
			t.Errorf("Open without room: %v, %d, %v", a, e, s.List())
		}
	}
}

// P11.1: a chronicle that isn't right is no archive.
func TestNoChronicle(t *testing.T) {
	for what, files := range map[string]map[string]string{
		"an empty index":         {"index": ""},
		"an index cut short":     {"index": "\x03L\x01"},
		"an index of other kind": {"index": written('M', "\x01\x00\x00")},
		"an index without base":  {"index": written('L', "\x01\x01\x02")},
		"a base of other kind":   {"index": written('L', "\x01\x01\x02"), "b.1": written('B', baseOf(some(2)))},
	} {
		refusedForm(t, what, files)
	}
}

// P11.1: records that an archive didn't make: it is opened, with a base and without one, in any volumes.
func TestRightRecords(t *testing.T) {
	l := some(12)
	for n := range 9 {
		for each := 1; each < 6; each += 2 {
			base := ""
			if n > 0 {
				base = baseOf(l[:n])
			}
			r := recordsOf(lastOf(l[:n]), l[n:]...)
			whole := record{'S', tableOf(l[:n+2])}
			first := record{'S', tableOf(l[:n])}
			for i, x := range [][]record{nil, r, slices.Insert(slices.Clone(r), 2, whole), slices.Insert(slices.Clone(r), 0, first)} {
				if i == 3 && n == 0 {
					continue
				}
				a := wantOpen(t, shelfOf(chronicleOf(each, base, n+2, x)), anyConfig)
				all := l
				if i == 0 {
					all = l[:n]
				}
				wantTold(t, a, all, n)
				if want := []int{1, 1, 2, 1}[i]; a.Spots() != want {
					t.Errorf("%d spots, not %d", a.Spots(), want)
				}
			}
		}
	}
}

// P11.1: records of other kinds, and those that aren't changes or whole tables of what is ahead.
func TestWrongRecords(t *testing.T) {
	l := some(9)
	whole := record{'S', tableOf(l[:6])}
	right := recordsOf(lastOf(l[:4]), l[4], l[5])
	next := changeOf(l[5], l[6])
	wrong := map[string]record{
		"nothing":               {'D', ""},
		"a change with more":    {'D', next + "\x00"},
		"a change cut short":    {'D', next[:len(next)-1]},
		"a change of Endless":   {'D', numbers(0, 16*8) + "\x63" + numbers(0, folded(api.Endless), 0)},
		"a change at great len": {'D', "\x00\x81\x80" + next[2:]},
		"what is gone already":  {'D', numbers(0, 16*8+1) + "\x63"},
		"an empty table":        {'S', ""},
		"a table with more":     {'S', whole.p + "\x00"},
		"a table cut short":     {'S', whole.p[:len(whole.p)-1]},
		"the table ahead":       {'S', tableOf(l[:5])},
		"the table behind":      {'S', tableOf(l[:7])},
		"the first table":       {'S', tableOf(nil)},
		"another table":         {'S', strings.Replace(whole.p, "\x06", "\x07", 1)},
	}
	for kind := range 256 {
		if kind != 'D' && kind != 'S' {
			wrong["kind "+string([]byte{byte(kind)})] = record{byte(kind), next}
		}
	}
	wrong["a table as a change"] = record{'D', whole.p}
	wrong["a change as a table"] = record{'S', next}
	for what, r := range wrong {
		for _, each := range []int{1, 2, 3} {
			refusedForm(t, what, chronicleOf(each, baseOf(l[:4]), 4, append(slices.Clone(right), r)))
			refusedForm(t, what+", with more behind", chronicleOf(each, baseOf(l[:4]), 4, append(slices.Clone(right), r, record{'D', next})))
			refusedForm(t, what+", alone behind a base", chronicleOf(each, baseOf(l[:6]), 6, []record{r}))
		}
		if what != "the first table" {
			refusedForm(t, what+", alone", chronicleOf(1, "", 0, []record{r}))
		}
	}
}

// P11.1: a whole table stands behind changes that are since the one ahead.
func TestWrongPlaces(t *testing.T) {
	l := some(4)
	r := recordsOf(api.Change{}, l...)
	whole := record{'S', tableOf(l)}
	for _, each := range []int{1, 3, 9} {
		refusedForm(t, "a table of nothing", chronicleOf(each, "", 0, []record{{'S', tableOf(nil)}}))
		refusedForm(t, "a table of nothing ahead of all", chronicleOf(each, "", 0, append([]record{{'S', tableOf(nil)}}, r...)))
		refusedForm(t, "a table twice", chronicleOf(each, "", 0, append(slices.Clone(r), whole, whole)))
		refusedForm(t, "a table twice behind a base", chronicleOf(each, baseOf(l), 4, []record{whole, whole}))
	}
}

// P11.1: a change behind which the table would be too full, and one that is gone and never was, are none.
func TestRefusedChanges(t *testing.T) {
	var l []api.Change
	for i := range uint64(api.MaxRoutes) {
		l = append(l, by(i+1, 0, api.Prefix{Addr: uint32(i) << 16, Len: 16}, 1))
	}
	a := wantOpen(t, shelfOf(chronicleOf(1000, "", 0, recordsOf(api.Change{}, l...))), anyConfig)
	wantTold(t, a, l, 0)
	a = wantOpen(t, shelfOf(chronicleOf(1000, baseOf(l), len(l), nil)), anyConfig)
	wantTold(t, a, l, len(l))
	l = append(l, by(api.MaxRoutes+1, 0, api.Prefix{Addr: 99 << 24, Len: 8}, 1))
	refusedForm(t, "a row too many", chronicleOf(1000, "", 0, recordsOf(api.Change{}, l...)))
	refusedForm(t, "a row too many in the base", chronicleOf(1000, baseOf(l), len(l), nil))
	refusedForm(t, "gone first", chronicleOf(1, "", 0, recordsOf(api.Change{}, gone(1, 0, ten))))
	refusedForm(t, "gone twice", chronicleOf(1, "", 0, recordsOf(api.Change{}, by(1, 0, ten, 1), gone(2, 0, ten), gone(3, 0, ten))))
}

// P11.1: a base is a number, the change of that number, and the table of which that is the last change.
func TestWrongBases(t *testing.T) {
	l := []api.Change{by(1, 3, ten, 1), by(2, 4, prefixOf(3), 2), gone(3, 9, ten), by(4, 300, prefixOf(5), 4)}
	one := func(c api.Change) string {
		p := changeOf(api.Change{No: c.No - 1}, c)
		return number(uint64(len(p))) + p
	}
	// The least of all routes differs from none in nothing but that it is there.
	least, none := api.Change{No: 1, R: api.Route{P: ten}}, gone(1, 0, ten)
	known := map[string]string{
		"gone, and the least is":     "\x01" + one(none) + tableOf([]api.Change{least}),
		"the least, that is gone":    "\x01" + one(least) + tableOf([]api.Change{none}),
		"no change, and no number":   "\x00\x00" + numbers(0, 0, 1, 0, 0, 0, 0, 1, 0, 0),
		"nothing of a change":        "\x04\x00" + tableOf(l),
		"number 0":                   "\x00" + one(l[3]) + tableOf(l),
		"another number":             "\x05" + one(l[3]) + tableOf(l),
		"the number ahead":           "\x03" + one(l[3]) + tableOf(l),
		"a change too short":         "\x04" + one(l[3])[:1] + one(l[3])[2:] + tableOf(l),
		"more of a change":           "\x04" + number(uint64(len(one(l[3])))) + one(l[3])[1:] + "\x00" + tableOf(l),
		"no such many bytes":         "\x04" + number(10000) + one(l[3])[1:] + tableOf(l),
		"as many bytes as can be":    "\x04" + number(math.MaxUint64) + one(l[3])[1:] + tableOf(l),
		"the table ahead":            "\x04" + one(l[3]) + tableOf(l[:3]),
		"another time":               "\x04" + one(by(4, 301, prefixOf(5), 4)) + tableOf(l),
		"another neighbor":           "\x04" + one(by(4, 300, prefixOf(5), 5)) + tableOf(l),
		"another prefix":             "\x04" + one(by(4, 300, prefixOf(3), 4)) + tableOf(l),
		"a prefix that never was":    "\x04" + one(by(4, 300, prefixOf(6), 4)) + tableOf(l),
		"gone, that is there":        "\x04" + one(gone(4, 300, prefixOf(5))) + tableOf(l),
		"there, that is gone":        "\x03" + one(by(3, 9, ten, 1)) + tableOf(l[:3]),
		"gone, that never was":       "\x03" + one(gone(3, 9, prefixOf(6))) + tableOf(l[:3]),
		"all gone, that never was":   "\x03" + one(gone(3, 9, api.Prefix{})) + tableOf(l[:3]),
		"a change that may not be":   "\x04" + one(by(4, 300, prefixOf(5), 16)) + tableOf(append(l[:3:3], by(4, 300, prefixOf(5), 16))),
		"a route that may not be":    baseOf(append([]api.Change{by(1, 3, prefixOf(6), 16)}, l[1:]...)),
		"a number at greater length": "\x80\x04" + one(l[3]) + tableOf(l),
		"a length at greater length": "\x04\x80" + one(l[3]) + tableOf(l),
		"no table":                   "\x04" + one(l[3]),
		"a table of no change":       "\x00\x00" + tableOf(nil),
		"a table alone":              tableOf(l),
	}
	for what, p := range known {
		refusedForm(t, what, chronicleOf(1, p, 4, nil))
		refusedForm(t, what+", with more behind", chronicleOf(1, p, 4, recordsOf(l[3], by(5, 301, ten, 1))))
	}
	for n := range l {
		p := baseOf(l[:n+1])
		wantTold(t, wantOpen(t, shelfOf(chronicleOf(1, p, n+1, nil)), anyConfig), l[:n+1], n+1)
		for cut := range len(p) {
			if cut > 0 {
				refusedForm(t, "a base cut short", chronicleOf(1, p[:cut], n+1, nil))
			}
		}
		refusedForm(t, "a base with more behind", chronicleOf(1, p+"\x00", n+1, nil))
	}
	empty := chronicleOf(1, "x", 4, nil)
	empty["b.1"] = written('b', "")
	refusedForm(t, "an empty base", empty)
}

// P11.1: of each byte of a base, and of each record, each bit another: Open doesn't panic, and what it finds it would write so.
func TestAnyBit(t *testing.T) {
	l := []api.Change{by(1, 3, ten, 1), gone(2, 9, ten), by(3, 300, prefixOf(5), 4), by(4, 301, ten, 2)}
	base := baseOf(l[:2])
	rest := recordsOf(l[1], l[2:]...)
	rest = append(rest, record{'S', tableOf(l)})
	for i := range len(base) * 8 {
		wantAsRead(t, chronicleOf(9, flip(base, i), 2, rest))
	}
	for n, r := range rest {
		for i := range len(r.p) * 8 {
			x := slices.Clone(rest)
			x[n].p = flip(r.p, i)
			wantAsRead(t, chronicleOf(9, base, 2, x))
		}
	}
}

// flip is a text of which one bit is another.
func flip(p string, bit int) string {
	b := []byte(p)
	b[bit/8] ^= 1 << (bit % 8)
	return string(b)
}

// wantAsRead asks that what Open finds in files, if it does, an archive's own words tell of as well.
func wantAsRead(t *testing.T, files map[string]string) {
	t.Helper()
	s := shelfOf(files)
	a, e := Open(s, anyConfig)
	if e != api.OK {
		if e != api.ErrForm || a != nil {
			t.Fatalf("Open: %v, %d", a, e)
		}
		wantFiles(t, s, files)
		return
	}
	no, time := a.Base().Last()
	if a.Horizon() != time || len(a.Changes()) != 2 || a.Changes()[0].No != no+1 {
		t.Fatalf("%d, %d, %v", no, time, a.Changes())
	}
	x := a.Base()
	for _, c := range a.Changes() {
		wantErr(t, "Apply", x.Apply(c), api.OK)
	}
	if string(x.Encode()) != string(a.Now().Encode()) {
		t.Fatalf("%v, not %v", a.Now().Rows(), x.Rows())
	}
}

// P11.1: what a right chronicle has that isn't whole is cut off, and other files are deleted.
func TestOpenTidies(t *testing.T) {
	s, _, m := filled(t, Config{90, 3}, 14)
	s.Append("v."+strconv.Itoa(m.volumes[len(m.volumes)-1].no), []byte("\x05Dxy"))
	s.Create("other")
	s.Create("index.new")
	wantLike(t, s, wantOpen(t, s, Config{90, 3}), m)
	if s.Moves() != 0 {
		t.Error("names aren't safe")
	}
}
