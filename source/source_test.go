package source

import (
	"slices"
	"testing"

	"milestone/api"
)

// of is a prefix of an address's first bits.
func of(addr uint32, n int) api.Prefix {
	if n == 0 {
		return api.Prefix{}
	}
	return api.Prefix{Addr: addr >> (32 - n) << (32 - n), Len: uint8(n)}
}

// nth is one of many prefixes, all unlike.
func nth(i int) api.Prefix {
	return of(uint32(i)<<8, 24)
}

var (
	all    = of(0, 0)
	ten    = of(0x0a000000, 8)
	tenOne = of(0x0a000000, 16)
	eleven = of(0x0b000000, 8)
	single = of(0xffffffff, 32)
	rights = []api.Prefix{all, ten, tenOne, eleven, single}
	wrongs = []api.Prefix{
		{Len: 33}, {Len: 64}, {Len: 255}, {Addr: 0x0a000000, Len: 40}, {Addr: 1}, {Addr: 0x80000000},
		{Addr: 0x0a000001, Len: 8}, {Addr: 0x0a800000, Len: 8}, {Addr: 0xffffffff, Len: 31},
	}
)

func mark(seq, metric uint16) api.Mark {
	return api.Mark{Seq: seq, Metric: metric}
}

func row(p api.Prefix, seq, metric uint16) api.Row {
	return api.Row{P: p, M: mark(seq, metric)}
}

// lower asks that a mark is taken.
func lower(t *testing.T, s *Source, p api.Prefix, seq, metric uint16) {
	t.Helper()
	if e := s.Lower(p, mark(seq, metric)); e != api.OK {
		t.Errorf("Lower(%v, (%d, %d)) = %d", p, seq, metric, e)
	}
}

// wantMark asks for a prefix's mark, and for the serial behind it.
func wantMark(t *testing.T, s *Source, p api.Prefix, seq, metric uint16) {
	t.Helper()
	if m, ok := s.Mark(p); m != mark(seq, metric) || !ok {
		t.Errorf("Mark(%v) = %v, %v, not (%d, %d)", p, m, ok, seq, metric)
	}
	if w, ok := s.Wants(p); int(w) != (int(seq)+1)%65536 || !ok {
		t.Errorf("Wants(%v) = %d, %v, behind %d", p, w, ok, seq)
	}
}

// wantNone asks that a prefix has no mark.
func wantNone(t *testing.T, s *Source, p api.Prefix) {
	t.Helper()
	if m, ok := s.Mark(p); m != (api.Mark{}) || ok {
		t.Errorf("Mark(%v) = %v, %v", p, m, ok)
	}
	if w, ok := s.Wants(p); w != 0 || ok {
		t.Errorf("Wants(%v) = %d, %v", p, w, ok)
	}
	for _, m := range []api.Mark{{}, mark(0, 65534), mark(0, 65535), mark(32768, 9), mark(65535, 0), mark(65535, 65535)} {
		wantFeasible(t, s, p, m, true)
	}
}

func wantFeasible(t *testing.T, s *Source, p api.Prefix, m api.Mark, want bool) {
	t.Helper()
	if s.Feasible(p, m) != want {
		t.Errorf("Feasible(%v, %v) = %v", p, m, !want)
	}
}

func wantLen(t *testing.T, s *Source, want int) {
	t.Helper()
	if n := s.Len(); n != want {
		t.Errorf("Len = %d, not %d", n, want)
	}
}

// P15.1: the document's example.
func TestExample(t *testing.T) {
	s := New()
	lower(t, s, ten, 1, 96)
	wantFeasible(t, s, ten, mark(1, 95), true)
	wantFeasible(t, s, ten, mark(2, 500), true)
	wantFeasible(t, s, ten, mark(1, 96), false)
}

// P15.1: a New one has no marks, and neither has one Of no rows.
func TestNew(t *testing.T) {
	for _, s := range []*Source{New(), Of(nil), Of([]api.Row{})} {
		if s == nil {
			t.Fatal("nil")
		}
		wantLen(t, s, 0)
		for _, p := range slices.Concat(rights, wrongs) {
			wantNone(t, s, p)
		}
	}
}

// P15.1: a prefix's first mark is the one that is told, whatever it is; the others have none of it.
func TestFirstMark(t *testing.T) {
	for _, seq := range []uint16{0, 1, 32767, 32768, 40000, 65534, 65535} {
		for _, metric := range []uint16{0, 1, 96, 32768, 65534} {
			s := New()
			for i, p := range rights {
				for _, q := range rights[i:] {
					wantNone(t, s, q)
				}
				wantLen(t, s, i)
				lower(t, s, p, seq, metric)
				wantMark(t, s, p, seq, metric)
			}
			wantLen(t, s, len(rights))
		}
	}
}

// P15.1: each prefix has a mark of its own.
func TestMarksOfTheirOwn(t *testing.T) {
	s := New()
	for i, p := range rights {
		lower(t, s, p, uint16(i), uint16(100*i))
	}
	lower(t, s, tenOne, 2, 150)
	lower(t, s, ten, 1, 200)
	for i, p := range rights {
		metric := uint16(100 * i)
		if p == tenOne {
			metric = 150
		}
		wantMark(t, s, p, uint16(i), metric)
		wantFeasible(t, s, p, mark(uint16(i), metric), false)
	}
	wantLen(t, s, len(rights))
}

// steps are marks that are told one after the other, each with the one that stays.
var steps = []struct{ told, stays api.Mark }{
	{mark(65533, 500), mark(65533, 500)},
	{mark(65533, 500), mark(65533, 500)},
	{mark(65533, 501), mark(65533, 500)},
	{mark(65533, 65534), mark(65533, 500)},
	{mark(65533, 499), mark(65533, 499)},
	{mark(65532, 1), mark(65533, 499)},
	{mark(40000, 0), mark(65533, 499)},
	{mark(65534, 499), mark(65534, 499)},
	{mark(65535, 65534), mark(65535, 65534)},
	{mark(65534, 0), mark(65535, 65534)},
	{mark(0, 900), mark(0, 900)},
	{mark(65535, 0), mark(0, 900)},
	{mark(0, 0), mark(0, 0)},
	{mark(0, 1), mark(0, 0)},
	{mark(0, 0), mark(0, 0)},
	{mark(7000, 65534), mark(7000, 65534)},
	{mark(1, 0), mark(7000, 65534)},
}

// P15.1, P15.2: a mark that is told is OK, but the nearer one stays: of a newer serial, round behind 65535 too, or of one serial with a lesser metric.
func TestNearerOneStays(t *testing.T) {
	s := New()
	var rows []api.Row
	for _, x := range steps {
		lower(t, s, ten, x.told.Seq, x.told.Metric)
		rows = append(rows, api.Row{P: ten, M: x.told})
		for _, l := range []*Source{s, Of(rows)} {
			wantMark(t, l, ten, x.stays.Seq, x.stays.Metric)
			wantLen(t, l, 1)
		}
	}
}

// P15.1: of a mark those are feasible that are nearer, not that one itself, and what is Endless, of any serial.
func TestFeasible(t *testing.T) {
	s := New()
	lower(t, s, ten, 65535, 96)
	for _, m := range []api.Mark{mark(65535, 95), mark(65535, 0), mark(0, 0), mark(0, 96), mark(0, 65534), mark(5, 900), mark(32766, 65534)} {
		wantFeasible(t, s, ten, m, true)
	}
	for _, m := range []api.Mark{mark(65535, 96), mark(65535, 97), mark(65535, 65534), mark(65534, 0), mark(65534, 95), mark(40000, 1), mark(32768, 0)} {
		wantFeasible(t, s, ten, m, false)
	}
	for seq := range 65536 {
		wantFeasible(t, s, ten, mark(uint16(seq), 65535), true)
	}
	lower(t, s, all, 3, 0)
	for metric := range 65535 {
		wantFeasible(t, s, all, mark(3, uint16(metric)), false)
		wantFeasible(t, s, all, mark(4, uint16(metric)), true)
		wantFeasible(t, s, all, mark(2, uint16(metric)), false)
	}
}

// P15.1: the serial that is wanted makes any metric feasible, and is one behind, round behind 65535 too.
func TestWants(t *testing.T) {
	for _, seq := range []uint16{0, 1, 32766, 32767, 32768, 65534, 65535} {
		s := New()
		lower(t, s, ten, seq, 0)
		w, ok := s.Wants(ten)
		if !ok || int(w) != (int(seq)+1)%65536 {
			t.Errorf("Wants behind %d: %d, %v", seq, w, ok)
		}
		wantFeasible(t, s, ten, mark(w, 65534), true)
		wantFeasible(t, s, ten, mark(seq, 65534), false)
		if _, ok := s.Wants(tenOne); ok {
			t.Error("Wants of another one")
		}
		lower(t, s, ten, w, 9)
		wantMark(t, s, ten, w, 9)
	}
}

// P15.1: ErrArg, and nothing has changed, of a prefix that isn't Right, or a metric that is Endless.
func TestLowerWrong(t *testing.T) {
	s := New()
	lower(t, s, ten, 5, 96)
	refuse := func(p api.Prefix, m api.Mark) {
		t.Helper()
		if e := s.Lower(p, m); e != api.ErrArg {
			t.Errorf("Lower(%v, %v) = %d", p, m, e)
		}
		wantMark(t, s, ten, 5, 96)
		wantLen(t, s, 1)
	}
	for _, p := range wrongs {
		for _, m := range []api.Mark{{}, mark(5, 95), mark(6, 1), mark(6, 65535)} {
			refuse(p, m)
			wantNone(t, s, p)
		}
	}
	for _, seq := range []uint16{0, 4, 5, 6, 7000, 65535} {
		refuse(ten, mark(seq, 65535))
		refuse(eleven, mark(seq, 65535))
		wantNone(t, s, eleven)
	}
}

// full has as many marks as may be.
func full(t *testing.T) *Source {
	t.Helper()
	s := New()
	for i := range 256 {
		lower(t, s, nth(i), 9, 500)
		wantLen(t, s, i+1)
	}
	return s
}

// P15.1: MaxRoutes works; one beyond is ErrFull, and nothing has changed; those that are there are lowered on; what isn't right is ErrArg ahead of that.
func TestFull(t *testing.T) {
	s := full(t)
	for _, p := range []api.Prefix{nth(256), nth(1000), all, single, of(0, 25)} {
		for _, m := range []api.Mark{{}, mark(9, 500), mark(10, 1), mark(9, 65534)} {
			if e := s.Lower(p, m); e != api.ErrFull {
				t.Errorf("Lower(%v, %v) = %d", p, m, e)
			}
			wantNone(t, s, p)
			wantLen(t, s, 256)
		}
		if e := s.Lower(p, mark(9, 65535)); e != api.ErrArg {
			t.Errorf("Lower of Endless = %d", e)
		}
	}
	for _, p := range wrongs {
		if e := s.Lower(p, mark(9, 500)); e != api.ErrArg {
			t.Errorf("Lower(%v) = %d", p, e)
		}
	}
	for i := range 256 {
		wantMark(t, s, nth(i), 9, 500)
		lower(t, s, nth(i), 9, uint16(i))
		lower(t, s, nth(i), 8, 0)
		wantMark(t, s, nth(i), 9, uint16(i))
	}
	wantLen(t, s, 256)
}

// P15.1: Of takes each row's mark in order, whether it has a route or not; what Lower refuses is passed by, and those behind it aren't.
func TestOf(t *testing.T) {
	rows := []api.Row{
		row(eleven, 65535, 7),
		{P: ten, Has: true, R: api.Route{P: ten, Via: 3, Metric: 400, Seq: 9}, M: mark(9, 300)},
		row(tenOne, 4, 65535),
		{P: wrongs[0], Has: true, R: api.Route{P: single, Metric: 1, Seq: 1}, M: mark(1, 1)},
		row(ten, 8, 1),
		row(wrongs[6], 1, 1),
		row(eleven, 0, 7),
		row(all, 0, 0),
		row(ten, 9, 299),
		row(all, 0, 1),
		row(all, 1, 65535),
	}
	before := slices.Clone(rows)
	s := Of(rows)
	if !slices.Equal(rows, before) {
		t.Errorf("Of wrote over %v", before)
	}
	wantMark(t, s, ten, 9, 299)
	wantMark(t, s, eleven, 0, 7)
	wantMark(t, s, all, 0, 0)
	for _, p := range append([]api.Prefix{tenOne, single}, wrongs...) {
		wantNone(t, s, p)
	}
	wantLen(t, s, 3)
	lower(t, s, tenOne, 4, 4)
	wantMark(t, s, tenOne, 4, 4)
}

// P15.1: Of more rows than may be the first ones have marks; those of their prefixes behind them are Lowered too.
func TestOfTooMany(t *testing.T) {
	var rows []api.Row
	for i := range 300 {
		rows = append(rows, row(nth(i), 9, 500))
	}
	rows = append(rows, row(nth(0), 9, 400), row(nth(255), 10, 600), row(nth(256), 10, 1))
	s := Of(rows)
	wantLen(t, s, 256)
	wantMark(t, s, nth(0), 9, 400)
	for i := 1; i < 255; i++ {
		wantMark(t, s, nth(i), 9, 500)
	}
	wantMark(t, s, nth(255), 10, 600)
	for i := 256; i < 300; i++ {
		wantNone(t, s, nth(i))
	}
	wantLen(t, Of(rows[:256]), 256)
	wantLen(t, Of(rows[:255]), 255)
	if e := Of(rows[:255]).Lower(nth(255), mark(9, 500)); e != api.OK {
		t.Error(e)
	}
}

// P15.1: a nil one has no marks: Lower is ErrNone ahead of all, all is feasible.
func TestNil(t *testing.T) {
	var s *Source
	for _, p := range slices.Concat(rights, wrongs) {
		for _, m := range []api.Mark{{}, mark(1, 96), mark(65535, 65535)} {
			if e := s.Lower(p, m); e != api.ErrNone {
				t.Errorf("Lower(%v, %v) = %d", p, m, e)
			}
		}
		wantNone(t, s, p)
	}
	wantLen(t, s, 0)
}

// P1: a Source that neither New nor Of made doesn't panic either.
func TestZeroValue(t *testing.T) {
	var s Source
	wantLen(t, &s, 0)
	wantNone(t, &s, ten)
	lower(t, &s, ten, 1, 96)
	wantMark(t, &s, ten, 1, 96)
}

// P2: Sources have nothing in common, neither with each other nor with the rows they are made of.
func TestSourcesOfTheirOwn(t *testing.T) {
	rows := []api.Row{row(ten, 3, 300), row(eleven, 3, 300)}
	a, b, c := Of(rows), Of(rows), New()
	lower(t, a, ten, 3, 200)
	lower(t, a, all, 0, 0)
	lower(t, c, ten, 1, 1)
	wantMark(t, a, ten, 3, 200)
	wantMark(t, b, ten, 3, 300)
	wantMark(t, c, ten, 1, 1)
	wantNone(t, b, all)
	wantNone(t, c, eleven)
	wantLen(t, a, 3)
	wantLen(t, b, 2)
	wantLen(t, c, 1)
	if rows[0] != row(ten, 3, 300) || rows[1] != row(eleven, 3, 300) {
		t.Error(rows)
	}
	rows[0], rows[1] = row(all, 9, 9), row(all, 9, 9)
	wantMark(t, b, ten, 3, 300)
	wantMark(t, b, eleven, 3, 300)
	wantNone(t, b, all)
}
