package archive

import (
	"slices"

	"milestone/api"
	"milestone/frame"
)

// indexGrowth is more than an index can grow by a fold: its three numbers have 27 bytes at most.
const indexGrowth = 32

// Compact: all that was up to a time is known no more but for what it came to: how many changes. ErrNone: there is no such change; the chronicle's errors.
func (a *Archive) Compact(time uint64) (int, api.Errno) {
	if a == nil {
		return 0, api.ErrNone
	}
	n := a.upTo(time)
	if n == 0 {
		return 0, api.ErrNone
	}
	return a.fold(n)
}

// Retain: what is older than a time goes into the base; and if the files, and the base that this makes, have more bytes than a budget, all that stands ahead of the last volume does: how many changes. The chronicle's errors.
func (a *Archive) Retain(oldest uint64, budget int) (int, api.Errno) {
	if a == nil {
		return 0, api.ErrNone
	}
	n := a.olderThan(oldest)
	above := a.Bytes()+a.baseSize(n)+indexGrowth > budget
	if above {
		n = max(n, a.wholeTimes(a.aheadOfLastVolume()))
	}
	switch {
	case n > 0:
		return a.fold(n)
	case above:
		return 0, a.dropVolumes()
	}
	return 0, api.OK
}

// olderThan is how many changes are ahead of a time.
func (a *Archive) olderThan(time uint64) int {
	if time == 0 {
		return 0
	}
	return a.upTo(time - 1)
}

// baseSize is how many bytes the file of a base of the first n changes has, if any goes into it.
func (a *Archive) baseSize(n int) int {
	if n == 0 {
		return 0
	}
	return frame.Size(len(a.baseOf(n)))
}

// baseOf is a base of the first n changes.
func (a *Archive) baseOf(n int) []byte {
	return packBase(a.changes[n-1].c, a.behind(n))
}

// aheadOfLastVolume is how many changes have their records ahead of the last volume.
func (a *Archive) aheadOfLastVolume() int {
	first := a.lastVolume()
	n := 0
	for n < len(a.changes) && a.changes[n].no < first {
		n++
	}
	return n
}

// lastVolume is the number of the record with which the last volume begins; of the next one, if there is no volume.
func (a *Archive) lastVolume() uint64 {
	l := a.records.Volumes()
	if len(l) == 0 {
		return a.records.Next()
	}
	return l[len(l)-1].First
}

// wholeTimes is how many changes are the first n, and those of the same time as the last of them:
// a time stands on one side of the horizon.
func (a *Archive) wholeTimes(n int) int {
	if n == 0 {
		return 0
	}
	return a.upTo(a.changes[n-1].c.Time)
}

// fold: the first n changes go into the base: so many.
func (a *Archive) fold(n int) (int, api.Errno) {
	if e := a.records.Fold(a.recordsUpTo(n), a.baseOf(n)); e != api.OK {
		return 0, e
	}
	spots := []spot{{0, a.behind(n)}}
	for _, x := range a.spots {
		if x.n > n {
			spots = append(spots, spot{x.n - n, x.t})
		}
	}
	a.spots = spots
	a.changes = slices.Clone(a.changes[n:])
	return n, api.OK
}

// recordsUpTo is the number of the last record that goes with the first n changes: a whole table behind them goes too, for
// else its volume would stay, and the base tells what it does.
func (a *Archive) recordsUpTo(n int) uint64 {
	if n < len(a.changes) {
		return a.changes[n].no - 1
	}
	return a.records.Next() - 1
}
