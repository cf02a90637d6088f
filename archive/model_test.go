package archive

import (
	"cmp"
	"encoding/binary"
	"hash/crc32"
	"maps"
	"math"
	"slices"
	"strconv"
	"strings"
	"testing"

	"milestone/api"
	"milestone/shelf"
	"milestone/table"
)

// castagnoli is the table of the library's CRC-32C.
var castagnoli = crc32.MakeTable(crc32.Castagnoli)

// plenty is room for all that a test writes.
const plenty = 1 << 30

// number is a number in the form of the document, told another way than package coin does.
func number(n uint64) string {
	whole := []byte{byte(n >> 56), byte(n >> 48), byte(n >> 40), byte(n >> 32), byte(n >> 24), byte(n >> 16), byte(n >> 8), byte(n)}
	for size := 1; size <= 8; size++ {
		if n < 1<<(7*size) {
			p := whole[8-size:]
			p[0] |= []byte{0, 0x80, 0xc0, 0xe0, 0xf0, 0xf8, 0xfc, 0xfe}[size-1]
			return string(p)
		}
	}
	return "\xff" + string(whole)
}

// numbers are some, one behind the other.
func numbers(l ...uint64) string {
	var s strings.Builder
	for _, n := range l {
		s.WriteString(number(n))
	}
	return s.String()
}

// folded is a number of any sign as one of none.
func folded(n int) uint64 {
	if n < 0 {
		return uint64(-2*n - 1)
	}
	return uint64(2 * n)
}

// written is a frame in the form of the document, made without package frame.
func written(kind byte, p string) string {
	all := number(uint64(len(p))) + string([]byte{kind}) + p
	return string(binary.LittleEndian.AppendUint32([]byte(all), crc32.Checksum([]byte(all), castagnoli)))
}

// addrOf are the bytes of a prefix's address that its length has begun.
func addrOf(p api.Prefix) string {
	return string(binary.BigEndian.AppendUint32(nil, p.Addr)[:(int(p.Len)+7)/8])
}

// changeOf is a change as bytes, in the form of the document, made without package change.
func changeOf(last, c api.Change) string {
	own, was, same := addrOf(c.R.P), addrOf(last.R.P), 0
	for same < len(own) && same < len(was) && own[same] == was[same] {
		same++
	}
	head := 16*uint64(c.R.P.Len) + 2*uint64(same)
	if c.Gone {
		return numbers(c.Time-last.Time, head+1) + own[same:]
	}
	if last.Gone {
		last.R = api.Route{}
	}
	r, from := c.R, last.R
	return numbers(c.Time-last.Time, head) + own[same:] +
		numbers(folded(r.Via-from.Via), folded(int(r.Metric)-int(from.Metric)), uint64(r.Seq-from.Seq))
}

// rowsOf is what changes come to, made without package table.
func rowsOf(l []api.Change) []api.Row {
	rows := map[api.Prefix]api.Row{}
	for _, c := range l {
		row, seen := rows[c.R.P]
		row.P, row.Has, row.R = c.R.P, !c.Gone, c.R
		newer := int16(c.R.Seq - row.M.Seq)
		if !c.Gone && (!seen || newer > 0 || newer == 0 && c.R.Metric < row.M.Metric) {
			row.M = api.Mark{Seq: c.R.Seq, Metric: c.R.Metric}
		}
		rows[c.R.P] = row
	}
	return slices.SortedFunc(maps.Values(rows), func(a, b api.Row) int {
		return cmp.Or(cmp.Compare(a.P.Addr, b.P.Addr), cmp.Compare(a.P.Len, b.P.Len))
	})
}

// lastOf is the last of some changes.
func lastOf(l []api.Change) api.Change {
	if len(l) == 0 {
		return api.Change{}
	}
	return l[len(l)-1]
}

// tableOf is what changes come to, as bytes, in the form of the document.
func tableOf(l []api.Change) string {
	rows := rowsOf(l)
	s := numbers(lastOf(l).No, lastOf(l).Time, uint64(len(rows)))
	for _, r := range rows {
		s += numbers(uint64(r.P.Addr), uint64(r.P.Len), uint64(r.M.Seq), uint64(r.M.Metric))
		if r.Has {
			s += numbers(uint64(r.R.Via)+1, uint64(r.R.Metric), uint64(r.R.Seq))
		} else {
			s += number(0)
		}
	}
	return s
}

// baseOf is a base of changes, as its bytes.
func baseOf(l []api.Change) string {
	c := lastOf(l)
	one := changeOf(api.Change{No: c.No - 1}, c)
	return numbers(c.No, uint64(len(one))) + one + tableOf(l)
}

// volume is a file of records: its number, its first record's number, and its records' frames.
type volume struct {
	no, first int
	l         []string
}

func (v volume) file() string {
	return written(0x54, numbers(uint64(v.no), uint64(v.first))) + strings.Join(v.l, "")
}

// model is what an Archive should be, told another way.
type model struct {
	c       Config
	all     []api.Change // each that ever was
	n       int          // how many of them are in the base
	wholes  []int        // behind how many of them a whole table stands
	nos     []int        // their records' numbers
	next    int          // the next record's number
	volumes []volume
	bases   int
	upto    int
}

func newModel(c Config) *model {
	return &model{c: c, next: 1}
}

// copy is a model of its own, equal to this one.
func (m *model) copy() *model {
	x := *m
	x.all, x.wholes, x.nos, x.volumes = slices.Clone(m.all), slices.Clone(m.wholes), slices.Clone(m.nos), slices.Clone(m.volumes)
	return &x
}

// record is one more record.
func (m *model) record(kind byte, p string) {
	if n := len(m.volumes); n == 0 {
		m.volumes = []volume{{no: 1, first: m.next}}
	} else if last := m.volumes[n-1]; len(last.file()) >= m.c.Most {
		m.volumes = append(m.volumes, volume{no: last.no + 1, first: m.next})
	}
	last := &m.volumes[len(m.volumes)-1]
	last.l = append(slices.Clone(last.l), written(kind, p))
	m.next++
}

// add is one more change.
func (m *model) add(c api.Change) {
	m.nos = append(m.nos, m.next)
	m.record(0x44, changeOf(lastOf(m.all), c))
	m.all = append(m.all, c)
	if len(m.all)-m.lastSpot() >= m.c.Every {
		m.record(0x53, tableOf(m.all))
		m.wholes = append(m.wholes, len(m.all))
	}
}

// lastSpot is behind how many changes the last table at hand stands.
func (m *model) lastSpot() int {
	return slices.Max(append([]int{m.n}, m.wholes...))
}

// horizon is the time of the base's last change.
func (m *model) horizon() uint64 {
	return lastOf(m.all[:m.n]).Time
}

// until is how many of all changes aren't behind a time.
func (m *model) until(time uint64) int {
	n := 0
	for _, c := range m.all {
		if c.Time <= time {
			n++
		}
	}
	return n
}

// aheadOfLast is how many of all changes are in the base, or have their records ahead of the last volume.
func (m *model) aheadOfLast() int {
	n := m.n
	for n < len(m.nos) && m.nos[n] < m.volumes[len(m.volumes)-1].first {
		n++
	}
	return n
}

// isAbove: are the bytes that there are, and those of a base of the first n of all changes, if it is a new one, above a budget?
func (m *model) isAbove(n, budget int) bool {
	if n == m.n {
		return m.bytes()+32 > budget
	}
	return m.bytes()+len(written(0x62, baseOf(m.all[:n])))+32 > budget
}

// retain is what a Retain does, and how many changes it says went.
func (m *model) retain(oldest uint64, budget int) int {
	n, was := m.n, m.n
	for n < len(m.all) && m.all[n].Time < oldest {
		n++
	}
	above := m.isAbove(n, budget)
	if ahead := m.aheadOfLast(); above && ahead > n {
		n = m.until(m.all[ahead-1].Time)
	}
	switch {
	case n > was:
		m.fold(n)
	case above:
		m.drop()
	}
	return n - was
}

// fold is a base of the first n of all changes. It goes up to the record ahead of the next change's.
func (m *model) fold(n int) {
	m.upto = m.next - 1
	if n < len(m.nos) {
		m.upto = m.nos[n] - 1
	}
	m.n = n
	m.bases++
	m.wholes = slices.DeleteFunc(m.wholes, func(x int) bool { return x <= n })
	for len(m.volumes) > 1 && m.volumes[1].first-1 <= m.upto {
		m.volumes = slices.Clone(m.volumes[1:])
	}
}

// drop leaves the last volume alone.
func (m *model) drop() {
	if n := len(m.volumes); n > 1 {
		m.volumes = slices.Clone(m.volumes[n-1:])
		m.upto = max(m.upto, m.volumes[0].first-1)
	}
}

// files are the files that there should be.
func (m *model) files() map[string]string {
	first := 1
	if len(m.volumes) > 0 {
		first = m.volumes[0].no
	}
	l := map[string]string{"index": written(0x4c, numbers(uint64(first), uint64(m.bases), uint64(m.upto)))}
	if m.bases > 0 {
		l["b."+strconv.Itoa(m.bases)] = written(0x62, baseOf(m.all[:m.n]))
	}
	for _, v := range m.volumes {
		l["v."+strconv.Itoa(v.no)] = v.file()
	}
	return l
}

// bytes is how many bytes the files have.
func (m *model) bytes() int {
	n := 0
	for _, p := range m.files() {
		n += len(p)
	}
	return n
}

// filesOf is what stands on a shelf.
func filesOf(s *shelf.Shelf) map[string]string {
	l := map[string]string{}
	for _, name := range s.List() {
		p, _ := s.Read(name)
		l[name] = string(p)
	}
	return l
}

// wantFiles asks that these files are on a shelf, and no others.
func wantFiles(t *testing.T, s *shelf.Shelf, want map[string]string) {
	t.Helper()
	if got := filesOf(s); !maps.Equal(got, want) {
		t.Fatalf("files: %q\nnot %q", got, want)
	}
}

// wantOpen opens an archive.
func wantOpen(t *testing.T, s *shelf.Shelf, c Config) *Archive {
	t.Helper()
	a, e := Open(s, c)
	if e != api.OK || a == nil {
		t.Fatalf("Open: %v, %d (%q)", a, e, filesOf(s))
	}
	return a
}

// wantErr asks what a call answered.
func wantErr(t *testing.T, what string, got, want api.Errno) {
	t.Helper()
	if got != want {
		t.Fatalf("%s: %d, not %d", what, got, want)
	}
}

// wantCount asks what a Compact or a Retain answered.
func wantCount(t *testing.T, what string, n int, e api.Errno, want int, wantE api.Errno) {
	t.Helper()
	if n != want || e != wantE {
		t.Fatalf("%s: %d, %d, not %d, %d", what, n, e, want, wantE)
	}
}

// wantTable asks what a table tells.
func wantTable(t *testing.T, what string, x *table.Table, l []api.Change) {
	t.Helper()
	no, time := x.Last()
	if x == nil || !slices.Equal(x.Rows(), rowsOf(l)) || no != lastOf(l).No || time != lastOf(l).Time {
		t.Fatalf("%s: %v, of %d at %d, not %v, of %v", what, x.Rows(), no, time, rowsOf(l), lastOf(l))
	}
}

// wantTold asks what an archive tells of its changes.
func wantTold(t *testing.T, a *Archive, all []api.Change, n int) {
	t.Helper()
	if l := a.Changes(); !slices.Equal(l, all[n:]) {
		t.Fatalf("Changes: %v, not %v", l, all[n:])
	}
	wantTable(t, "Now", a.Now(), all)
	wantTable(t, "Base", a.Base(), all[:n])
	if horizon := lastOf(all[:n]).Time; a.Horizon() != horizon {
		t.Fatalf("Horizon: %d, not %d", a.Horizon(), horizon)
	}
	wantAt(t, a, all, lastOf(all[:n]).Time)
}

// wantAt asks what an archive tells of all times about which there is something to ask.
func wantAt(t *testing.T, a *Archive, all []api.Change, horizon uint64) {
	t.Helper()
	times := []uint64{0, math.MaxInt64, math.MaxUint64}
	for _, c := range all {
		times = append(times, c.Time-1, c.Time, c.Time+1)
	}
	slices.Sort(times)
	n := 0
	for _, time := range slices.Compact(times) {
		for n < len(all) && all[n].Time <= time {
			n++
		}
		x, e := a.At(time)
		if time < horizon {
			if x != nil || e != api.ErrHorizon {
				t.Fatalf("At(%d), ahead of %d: %v, %d", time, horizon, x, e)
			}
			continue
		}
		wantErr(t, "At", e, api.OK)
		wantTable(t, "At", x, all[:n])
	}
}

// wantLike asks that an archive, and its shelf, are as a model tells.
func wantLike(t *testing.T, s *shelf.Shelf, a *Archive, m *model) {
	t.Helper()
	wantFiles(t, s, m.files())
	wantTold(t, a, m.all, m.n)
	if a.Spots() != 1+len(m.wholes) || a.Full() || a.Bytes() != m.bytes() || s.Used() != m.bytes() {
		t.Fatalf("Spots %d, Full %v, Bytes %d, Used %d, not %d, %d", a.Spots(), a.Full(), a.Bytes(), s.Used(), 1+len(m.wholes), m.bytes())
	}
}

// wantAdded adds a change to an archive and to its model.
func wantAdded(t *testing.T, a *Archive, m *model, c api.Change) {
	t.Helper()
	m.add(c)
	if e := a.Add(c); e != api.OK {
		t.Fatalf("Add(%v): %d", c, e)
	}
}

// wantCompacted compacts an archive and its model.
func wantCompacted(t *testing.T, a *Archive, m *model, time uint64) {
	t.Helper()
	want, wantE := m.until(time)-m.n, api.OK
	if want <= 0 {
		want, wantE = 0, api.ErrNone
	}
	n, e := a.Compact(time)
	wantCount(t, "Compact", n, e, want, wantE)
	if want > 0 {
		m.fold(m.n + want)
	}
}

// wantRetained lets an archive and its model retain, and asks for what P11.6 promises.
func wantRetained(t *testing.T, s *shelf.Shelf, a *Archive, m *model, oldest uint64, budget int) {
	t.Helper()
	want := m.retain(oldest, budget)
	n, e := a.Retain(oldest, budget)
	wantCount(t, "Retain", n, e, want, api.OK)
	wantSmall(t, s, a, budget)
}

// wantSmall asks for P11.6: the last volume is the one with the greatest number.
func wantSmall(t *testing.T, s *shelf.Shelf, a *Archive, budget int) {
	t.Helper()
	least, last, lastSize := 0, -1, 0
	for name, p := range filesOf(s) {
		no, volume := strings.CutPrefix(name, "v.")
		if n, _ := strconv.Atoi(no); volume && n > last {
			last, lastSize = n, len(p)
		} else if !volume {
			least += len(p)
		}
	}
	if a.Bytes() > max(budget, least+lastSize) {
		t.Fatalf("behind Retain: %d bytes, above %d, and %d and %d", a.Bytes(), budget, least, lastSize)
	}
}

// chance is a source of numbers that are always the same.
type chance uint32

func (x *chance) below(n int) int {
	*x = *x*1664525 + 1013904223
	return int(*x>>8) % n
}

// prefixOf is one of some prefixes, of many lengths.
func prefixOf(n int) api.Prefix {
	size := []uint8{0, 1, 8, 9, 16, 24, 25, 32}[n%8]
	addr := uint32(0x0a010203) + uint32(n/8)<<24
	return api.Prefix{Addr: uint32(uint64(addr) >> (32 - size) << (32 - size)), Len: size}
}

// change is some change that may stand behind others, by chance.
func (x *chance) change(all []api.Change) api.Change {
	last := lastOf(all)
	c := api.Change{No: last.No + 1, Time: last.Time + []uint64{0, 0, 1, 3, 1000}[x.below(5)]}
	rows := rowsOf(all)
	if n := len(rows); n > 0 && x.below(3) == 0 {
		if r := rows[x.below(n)]; r.Has {
			c.Gone, c.R.P = true, r.P
			return c
		}
	}
	c.R = api.Route{P: prefixOf(x.below(20)), Via: x.below(api.MaxNodes), Metric: uint16(x.below(api.Endless)), Seq: uint16(x.below(30000))}
	return c
}

// some are so many changes that may stand one behind the other.
func some(n int) []api.Change {
	x := chance(n)
	var l []api.Change
	for range n {
		l = append(l, x.change(l))
	}
	return l
}

// filled is an archive of some changes, with its model.
func filled(t *testing.T, c Config, n int) (*shelf.Shelf, *Archive, *model) {
	t.Helper()
	s := shelf.New(plenty)
	a, m := wantOpen(t, s, c), newModel(c)
	for _, x := range some(n) {
		wantAdded(t, a, m, x)
	}
	return s, a, m
}

// configs are some of many kinds.
var configs = []Config{{1, 1}, {1, 3}, {25, 1}, {40, 2}, {60, 3}, {100, 5}, {200, 4}, {1000, 8}, {math.MaxInt, 2}, {30, math.MaxInt}, {math.MaxInt, math.MaxInt}}

// P11.1 to P11.3, P11.5, P11.6: whatever an archive is told, it and its shelf are as the model tells, and so are they when it is opened anew.
func TestAnyCalls(t *testing.T) {
	for seed := range 25 {
		for _, c := range configs {
			x := chance(seed*1000 + 7)
			s := shelf.New(plenty)
			a, m := wantOpen(t, s, c), newModel(c)
			for range 40 {
				doAny(t, &x, s, &a, m)
				wantLike(t, s, a, m)
			}
		}
	}
}

// doAny is some call, by chance.
func doAny(t *testing.T, x *chance, s *shelf.Shelf, a **Archive, m *model) {
	t.Helper()
	time := m.horizon() + uint64(x.below(int(lastOf(m.all).Time-m.horizon())+4))
	time -= min(time, 2)
	switch n := x.below(16); {
	case n < 10:
		wantAdded(t, *a, m, x.change(m.all))
	case n < 11:
		wantErr(t, "Sync", (*a).Sync(), api.OK)
	case n < 12:
		wantCompacted(t, *a, m, time)
	case n < 14:
		budget := []int{-1, 0, m.bytes() + x.below(200), m.bytes() - x.below(100), plenty}[x.below(5)]
		wantRetained(t, s, *a, m, time*uint64(x.below(2)), budget)
	case n < 15:
		// Any other numbers hold from then on.
		m.c = configs[x.below(len(configs))]
		*a = wantOpen(t, s, m.c)
	default:
		// All is safe, so nothing is lost.
		wantErr(t, "Sync", (*a).Sync(), api.OK)
		s.Fall(0, 0)
		*a = wantOpen(t, s, m.c)
	}
}
