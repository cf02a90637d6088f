package chronicle

import (
	"encoding/binary"
	"hash/crc32"
	"maps"
	"math"
	"slices"
	"strconv"
	"strings"
	"testing"

	"milestone/api"
	"milestone/frame"
	"milestone/shelf"
)

// castagnoli is the table of the library's CRC-32C.
var castagnoli = crc32.MakeTable(crc32.Castagnoli)

// plenty is room for all that a test writes.
const plenty = 1 << 30

// number is a number in the form of the document, told another way than package coin does.
func number(n uint64) string {
	whole := []byte{byte(n >> 56), byte(n >> 48), byte(n >> 40), byte(n >> 32), byte(n >> 24), byte(n >> 16), byte(n >> 8), byte(n)}
	for size := 1; size <= 8; size++ {
		if n < 1<<(7*size) {
			p := whole[8-size:]
			p[0] |= []byte{0, 0x80, 0xc0, 0xe0, 0xf0, 0xf8, 0xfc, 0xfe}[size-1]
			return string(p)
		}
	}
	return "\xff" + string(whole)
}

// numbers are some, one behind the other.
func numbers(l ...uint64) string {
	var s strings.Builder
	for _, n := range l {
		s.WriteString(number(n))
	}
	return s.String()
}

// written is a frame in the form of the document, made without package frame.
func written(kind byte, p string) string {
	all := number(uint64(len(p))) + string([]byte{kind}) + p
	return string(binary.LittleEndian.AppendUint32([]byte(all), crc32.Checksum([]byte(all), castagnoli)))
}

// indexOf is an index as a file.
func indexOf(first, base, upto uint64) string {
	return written(0x4c, numbers(first, base, upto))
}

// titleOf is what a volume begins with.
func titleOf(no, first uint64) string {
	return written(0x54, numbers(no, first))
}

// baseOf is a base as a file.
func baseOf(p string) string {
	return written(0x62, p)
}

// volumeName and baseName are names of files, told another way than the package does.
func volumeName(no uint64) string { return "v." + strconv.Itoa(int(no)) }
func baseName(no uint64) string   { return "b." + strconv.Itoa(int(no)) }

// record is a kind and bytes.
type record struct {
	kind byte
	p    string
}

// modelVolume is a volume of a model: its numbers, and its records.
type modelVolume struct {
	no, first uint64
	l         []record
}

func (v modelVolume) next() uint64 { return v.first + uint64(len(v.l)) }

// file is a volume as a file.
func (v modelVolume) file() string {
	s := titleOf(v.no, v.first)
	for _, r := range v.l {
		s += written(r.kind, r.p)
	}
	return s
}

// model is what a Chronicle should be, told another way.
type model struct {
	most    int
	head    Head
	base    string
	volumes []modelVolume
}

func newModel(most int) *model {
	return &model{most: most, head: Head{First: 1}}
}

func (m *model) next() uint64 {
	if len(m.volumes) == 0 {
		return m.head.Upto + 1
	}
	return m.volumes[len(m.volumes)-1].next()
}

// append is one more record; it answers its number.
func (m *model) append(r record) uint64 {
	no := m.next()
	if n := len(m.volumes); n == 0 {
		m.volumes = []modelVolume{{no: m.head.First, first: no}}
	} else if last := m.volumes[n-1]; len(last.file()) >= m.most {
		m.volumes = append(m.volumes, modelVolume{no: last.no + 1, first: no})
	}
	last := &m.volumes[len(m.volumes)-1]
	last.l = append(slices.Clone(last.l), r)
	return no
}

// fold is a base up to a record that is there.
func (m *model) fold(upto uint64, p string) {
	var stay []modelVolume
	for i, v := range m.volumes {
		if v.next()-1 > upto || i == len(m.volumes)-1 {
			stay = append(stay, v)
		}
	}
	m.volumes = stay
	m.base = p
	m.head = Head{First: stay[0].no, Base: m.head.Base + 1, Upto: upto}
}

// records are those behind the base.
func (m *model) records() []record {
	var l []record
	for _, v := range m.volumes {
		for i, r := range v.l {
			if v.first+uint64(i) > m.head.Upto {
				l = append(l, r)
			}
		}
	}
	return l
}

// files are the files that there should be.
func (m *model) files() map[string]string {
	l := map[string]string{"index": indexOf(m.head.First, m.head.Base, m.head.Upto)}
	if m.head.Base != 0 {
		l[baseName(m.head.Base)] = baseOf(m.base)
	}
	for _, v := range m.volumes {
		l[volumeName(v.no)] = v.file()
	}
	return l
}

// copy is a model of its own, equal to this one.
func (m *model) copy() *model {
	x := *m
	x.volumes = slices.Clone(m.volumes)
	return &x
}

// filesOf is what stands on a shelf.
func filesOf(s *shelf.Shelf) map[string]string {
	l := map[string]string{}
	for _, name := range s.List() {
		p, _ := s.Read(name)
		l[name] = string(p)
	}
	return l
}

// shelfOf is a shelf on which these files are, and all of that is safe.
func shelfOf(files map[string]string) *shelf.Shelf {
	s := shelf.New(plenty)
	for _, name := range slices.Sorted(maps.Keys(files)) {
		s.Create(name)
		s.Append(name, []byte(files[name]))
		s.Sync(name)
	}
	s.Names()
	return s
}

// wantFiles asks that these files are on a shelf, and no others.
func wantFiles(t *testing.T, s *shelf.Shelf, want map[string]string) {
	t.Helper()
	if got := filesOf(s); !maps.Equal(got, want) {
		t.Fatalf("files: %q\nnot %q", got, want)
	}
}

// wantOpen opens a chronicle.
func wantOpen(t *testing.T, s *shelf.Shelf, most int) *Chronicle {
	t.Helper()
	c, e := Open(s, most)
	if e != api.OK || c == nil {
		t.Fatalf("Open: %v, %d (%q)", c, e, filesOf(s))
	}
	return c
}

// wantRecords asks that a chronicle tells these records, and the first one's number.
func wantRecords(t *testing.T, c *Chronicle, want []record, first uint64) {
	t.Helper()
	l, n := c.Records()
	got := make([]record, len(l))
	for i, item := range l {
		got[i] = record{item.Kind, string(item.P)}
	}
	if !slices.Equal(got, want) || n != first {
		t.Fatalf("Records: %q from %d on, not %q from %d on", got, n, want, first)
	}
}

// wantPlaces asks that each record's At and End are its places in its volume.
func wantPlaces(t *testing.T, c *Chronicle, m *model) {
	t.Helper()
	l, _ := c.Records()
	for _, v := range m.volumes {
		at := len(titleOf(v.no, v.first))
		for i, r := range v.l {
			end := at + len(written(r.kind, r.p))
			if v.first+uint64(i) > m.head.Upto {
				if l[0].At != at || l[0].End != end {
					t.Fatalf("record %d of %s: from %d to %d, not from %d to %d", i, volumeName(v.no), l[0].At, l[0].End, at, end)
				}
				l = l[1:]
			}
			at = end
		}
	}
}

// wantLike asks that a chronicle, and its shelf, are as a model tells.
func wantLike(t *testing.T, s *shelf.Shelf, c *Chronicle, m *model) {
	t.Helper()
	wantFiles(t, s, m.files())
	wantRecords(t, c, m.records(), m.head.Upto+1)
	wantPlaces(t, c, m)
	if c.Head() != m.head || c.Next() != m.next() || c.Full() {
		t.Fatalf("Head %v, Next %d, Full %v, not %v, %d", c.Head(), c.Next(), c.Full(), m.head, m.next())
	}
	p, e := c.Base()
	if none := m.head.Base == 0; none && (e != api.ErrNone || len(p) != 0) || !none && (e != api.OK || string(p) != m.base) {
		t.Fatalf("Base: %q, %d, not %q", p, e, m.base)
	}
	size := 0
	for _, p := range m.files() {
		size += len(p)
	}
	if c.Bytes() != size || s.Used() != size || s.Moves() != 0 {
		t.Fatalf("Bytes %d, Used %d, Moves %d, not %d", c.Bytes(), s.Used(), s.Moves(), size)
	}
	wantVolumes(t, c, m.volumes)
}

// wantVolumes asks which volumes a chronicle tells.
func wantVolumes(t *testing.T, c *Chronicle, want []modelVolume) {
	t.Helper()
	l := c.Volumes()
	if len(l) != len(want) {
		t.Fatalf("Volumes: %v, not %d", l, len(want))
	}
	for i, v := range want {
		if l[i].No != v.no || l[i].First != v.first || len(l[i].L) != 0 || l[i].Size != len(v.file()) {
			t.Fatalf("Volumes: %v, not %v with %d bytes", l[i], v, len(v.file()))
		}
	}
}

// wantAppended appends a record to a chronicle and to its model.
func wantAppended(t *testing.T, c *Chronicle, m *model, r record) {
	t.Helper()
	want := m.append(r)
	if no, e := c.Append(r.kind, []byte(r.p)); e != api.OK || no != want {
		t.Fatalf("Append: %d, %d, not %d", no, e, want)
	}
}

// wantFolded folds a chronicle and its model.
func wantFolded(t *testing.T, c *Chronicle, m *model, upto uint64, p string) {
	t.Helper()
	m.fold(upto, p)
	if e := c.Fold(upto, []byte(p)); e != api.OK {
		t.Fatalf("Fold(%d): %d", upto, e)
	}
}

// wantErr asks what a call answered.
func wantErr(t *testing.T, what string, got, want api.Errno) {
	t.Helper()
	if got != want {
		t.Fatalf("%s: %d, not %d", what, got, want)
	}
}

// some are records of many kinds and lengths; the numbers ahead of them tell them apart.
func some(n int) []record {
	l := make([]record, n)
	for i := range l {
		p := strconv.Itoa(i) + strings.Repeat(string([]byte{byte(i)}), i*i%40)
		l[i] = record{byte(i * 37), p}
	}
	if n > 3 {
		l[1], l[2], l[3] = record{0x54, numbers(2, 3)}, record{0, ""}, record{0x4c, numbers(1, 0, 0)}
	}
	return l
}

// filled is a chronicle of some records, with its model. Nothing but its volumes ahead of the last one need be safe.
func filled(t *testing.T, room, most, n int) (*shelf.Shelf, *Chronicle, *model) {
	t.Helper()
	s := shelf.New(room)
	c, m := wantOpen(t, s, most), newModel(most)
	for _, r := range some(n) {
		wantAppended(t, c, m, r)
	}
	return s, c, m
}

// mosts are lengths at which volumes may end.
var mosts = []int{math.MinInt, -1, 0, 1, 7, 8, 9, 14, 15, 30, 60, 200, plenty, math.MaxInt}

// chance is a source of numbers that are always the same.
type chance uint32

func (x *chance) below(n int) int {
	*x = *x*1664525 + 1013904223
	return int(*x>>8) % n
}

// P10.1 to P10.4: whatever a chronicle is told, it and its shelf are as the model tells, and so are they when it is opened anew.
func TestAnyCalls(t *testing.T) {
	for seed := range 60 {
		for _, most := range mosts {
			x := chance(seed*1000 + 7)
			s := shelf.New(plenty)
			c, m := wantOpen(t, s, most), newModel(most)
			for i := range 40 {
				doAny(t, &x, i, s, &c, m)
				wantLike(t, s, c, m)
			}
		}
	}
}

// doAny is some call, by chance.
func doAny(t *testing.T, x *chance, i int, s *shelf.Shelf, c **Chronicle, m *model) {
	t.Helper()
	switch n := x.below(12); {
	case n < 7:
		wantAppended(t, *c, m, record{byte(x.below(256)), strings.Repeat(string([]byte{byte(i)}), x.below(50))})
	case n < 8:
		wantErr(t, "Sync", (*c).Sync(), api.OK)
	case n < 10 && m.next() > m.head.Upto+1:
		upto := m.head.Upto + 1 + uint64(x.below(int(m.next()-m.head.Upto-1)))
		wantFolded(t, *c, m, upto, strings.Repeat("b", x.below(30)))
	case n < 10:
		wantErr(t, "Fold of nothing", (*c).Fold(m.head.Upto+1, nil), api.ErrArg)
	case n < 11:
		*c = wantOpen(t, s, m.most)
	default:
		// All is safe, so nothing is lost.
		wantErr(t, "Sync", (*c).Sync(), api.OK)
		s.Fall(0, 0)
		*c = wantOpen(t, s, m.most)
	}
}

// P10.4: Next of a Volume.
func TestVolumeNext(t *testing.T) {
	for _, first := range []uint64{0, 1, 2, 1 << 40} {
		for _, n := range []int{0, 1, 5, 1000} {
			v := Volume{No: 9, First: first, L: make([]frame.Item, n), Size: 77}
			if got := v.Next(); got != first+uint64(n) {
				t.Errorf("Next of %d records from %d on: %d", n, first, got)
			}
		}
	}
}
