package archive

import (
	"bytes"
	"math"

	"milestone/api"
	"milestone/change"
	"milestone/chronicle"
	"milestone/coin"
	"milestone/frame"
	"milestone/table"
)

// The kinds of records.
const (
	changeKind = 0x44
	wholeKind  = 0x53
)

// packBase is a table as a base, with its last change: the next one is told as it follows that.
func packBase(last api.Change, t *table.Table) []byte {
	one := change.Encode(ahead(last.No), last)
	p := coin.Put(coin.Put(nil, last.No), uint64(len(one)))
	return append(append(p, one...), t.Encode()...)
}

// ahead is a change that tells nothing but that it stands ahead of a number.
func ahead(no uint64) api.Change {
	return api.Change{No: no - 1}
}

// openBase: the table that is a base, and its last change; false: it isn't one.
func openBase(p []byte) (api.Change, *table.Table, bool) {
	x := coin.NewPurse(p)
	no := x.Take(math.MaxUint64)
	one := x.Bytes(int(x.Take(math.MaxInt)))
	whole := x.Bytes(x.Left())
	if x.End() != api.OK {
		return api.Change{}, nil, false
	}
	last, e := change.Decode(ahead(no), one)
	if e != api.OK {
		return api.Change{}, nil, false
	}
	t, e := table.Decode(whole)
	return last, t, e == api.OK && mayBe(t) && endsWith(t, last)
}

// mayBe: may changes come to a table? Decode asks less of it.
func mayBe(t *table.Table) bool {
	for _, r := range t.Routes() {
		if change.Right(api.Change{R: r}) != api.OK {
			return false
		}
	}
	return len(t.Rows()) <= api.MaxRoutes
}

// endsWith: is a change the last one of a table?
func endsWith(t *table.Table, c api.Change) bool {
	no, time := t.Last()
	row, there := t.Row(c.R.P)
	return no == c.No && time == c.Time && there && row.Has == !c.Gone && row.R == c.R
}

// takeBase takes the base out of a chronicle: the empty table, if there is none; false: it isn't one.
func (a *Archive) takeBase(records *chronicle.Chronicle) bool {
	ok := true
	a.now = table.New()
	if p, e := records.Base(); e == api.OK {
		a.last, a.now, ok = openBase(p)
	}
	a.keepSpot()
	return ok
}

// takeRecords takes what stands behind the base out of a chronicle; false: these aren't changes and whole tables.
func (a *Archive) takeRecords(records *chronicle.Chronicle) bool {
	l, first := records.Records()
	for i, x := range l {
		if i == 0 && a.isOfBase(x) {
			continue
		}
		if !a.take(x, first+uint64(i)) {
			return false
		}
	}
	return true
}

// isOfBase: is a record the whole table that was written behind the base's last change? It may have stayed.
func (a *Archive) isOfBase(x frame.Item) bool {
	return a.last.No > 0 && x.Kind == wholeKind && a.isNow(x.P)
}

// isNow: are some bytes the whole table as it is now?
func (a *Archive) isNow(p []byte) bool {
	return bytes.Equal(p, a.now.Encode())
}

// take takes one more record; false: it isn't one that may stand there.
func (a *Archive) take(x frame.Item, no uint64) bool {
	switch x.Kind {
	case changeKind:
		return a.takeChange(x.P, no)
	case wholeKind:
		return a.takeWhole(x.P)
	}
	return false
}

// takeChange takes a change; false: there is none that follows the one ahead, and may be in the table.
func (a *Archive) takeChange(p []byte, no uint64) bool {
	c, e := change.Decode(a.last, p)
	if e != api.OK || a.now.Apply(c) != api.OK {
		return false
	}
	a.keep(c, no)
	return true
}

// takeWhole takes a whole table; false: it isn't that of all changes so far, or there is none since the one ahead.
// Behind how many it was written isn't asked: that may have been another number each time.
func (a *Archive) takeWhole(p []byte) bool {
	if a.sinceSpot() == 0 || !a.isNow(p) {
		return false
	}
	a.keepSpot()
	return true
}
