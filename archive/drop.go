package archive

import (
	"milestone/api"
	"milestone/chronicle"
	"milestone/coin"
	"milestone/frame"
)

// A chronicle's index, and the name by which it is written, till it is whole and safe.
const (
	indexKind   = 0x4c
	indexBeside = "index.new"
)

// dropVolumes: the volumes ahead of the last one are no more, where no change stands in them that isn't in the base.
// A chronicle lets volumes go by a Fold alone, and that asks for a record that goes. Here there may be none: all of what
// was the last volume once went into the base. So the index is written as the chronicle would, and that is opened by it.
func (a *Archive) dropVolumes() api.Errno {
	l := a.records.Volumes()
	if len(l) < 2 {
		return api.OK
	}
	last, head := l[len(l)-1], a.records.Head()
	head.First, head.Upto = last.No, max(head.Upto, last.First-1)
	e := a.writeIndex(head)
	// To open it deletes what the index doesn't tell of; and what there is of that, if it couldn't be written.
	records, worse := chronicle.Open(a.s, a.most)
	switch {
	case worse != api.OK:
		return worse
	case e != api.OK:
		return e
	}
	a.records = records
	return api.OK
}

// writeIndex: the index tells this, or, behind a fall, what it told.
func (a *Archive) writeIndex(h chronicle.Head) api.Errno {
	p := coin.Put(coin.Put(coin.Put(nil, h.First), h.Base), h.Upto)
	steps := []func() api.Errno{
		func() api.Errno { return a.s.Create(indexBeside) },
		func() api.Errno { return a.s.Append(indexBeside, frame.Pack(indexKind, p)) },
		func() api.Errno { return a.s.Sync(indexBeside) },
		func() api.Errno { return a.s.Rename(indexBeside, chronicle.Index) },
		a.s.Names,
	}
	for _, step := range steps {
		if e := step(); e != api.OK {
			return e
		}
	}
	return api.OK
}
