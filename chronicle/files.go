package chronicle

import (
	"strconv"

	"milestone/api"
	"milestone/frame"
)

// The names of files.
const (
	Index  = "index"
	beside = "index.new"
	volume = "v."
	base   = "b."
)

// Name: a volume's file.
func Name(no uint64) string {
	return volume + strconv.FormatUint(no, 10)
}

// Base: a base's.
func Base(no uint64) string {
	return base + strconv.FormatUint(no, 10)
}

// takeHead takes the head out of an index; false: that isn't right.
func (c *Chronicle) takeHead(index []byte) bool {
	f, ok := alone(index)
	return ok && takeNumbers(f, headKind, &c.head.First, &c.head.Base, &c.head.Upto)
}

// takeBase takes the bytes of the base of which the head tells, if it tells of one; false: that isn't there, or isn't right.
func (c *Chronicle) takeBase() bool {
	if c.head.Base == 0 {
		return true
	}
	p, e := c.s.Read(Base(c.head.Base))
	if e != api.OK {
		return false
	}
	f, ok := alone(p)
	c.base = f.P
	return ok && f.Kind == baseKind
}

// takeVolumes takes the volumes as far as they are there, and follow.
func (c *Chronicle) takeVolumes() api.Errno {
	more, e := true, api.OK
	for more {
		more, e = c.takeVolume()
	}
	if c.Next() <= c.head.Upto {
		// No fall leaves them so. All that they have is in the base, and no record that is behind that would follow them.
		c.volumes = nil
	}
	return e
}

// takeVolume takes one more volume; false: none follows. What isn't whole of it is cut off.
func (c *Chronicle) takeVolume() (bool, api.Errno) {
	no := c.nextVolume()
	p, e := c.s.Read(Name(no))
	if e != api.OK {
		return false, api.OK
	}
	v, ok := volumeOf(p)
	if !ok || v.No != no || !c.follows(v) {
		return false, api.OK
	}
	if v.Size < len(p) {
		e = c.s.Cut(Name(no), v.Size)
	}
	c.volumes = append(c.volumes, v)
	return e == api.OK, e
}

// nextVolume is the number of the volume behind the last one.
func (c *Chronicle) nextVolume() uint64 {
	if len(c.volumes) == 0 {
		return c.head.First
	}
	return c.last().No + 1
}

// follows: does a volume begin with the next record? The first one may begin ahead of it, with records that are in the base.
func (c *Chronicle) follows(v Volume) bool {
	if len(c.volumes) == 0 {
		return v.First <= c.Next()
	}
	return v.First == c.Next()
}

// begin: a new volume, which begins with the next record. If it can't be, nothing has happened.
func (c *Chronicle) begin() api.Errno {
	v := Volume{No: c.nextVolume(), First: c.Next()}
	name, title := Name(v.No), packTitle(v)
	v.Size = len(title)
	e := inOrder(
		func() api.Errno { return c.s.Create(name) },
		func() api.Errno { return c.s.Append(name, title) },
		func() api.Errno { return c.s.Sync(name) },
		c.s.Names,
	)
	if e != api.OK {
		return c.undo(e)
	}
	c.volumes = append(c.volumes, v)
	return api.OK
}

// write: a file has these bytes, whole and safe, or, behind a fall, what it had. If it can't, nothing has happened.
func (c *Chronicle) write(name string, p []byte) api.Errno {
	e := inOrder(
		func() api.Errno { return c.s.Create(beside) },
		func() api.Errno { return c.s.Append(beside, p) },
		func() api.Errno { return c.s.Sync(beside) },
		func() api.Errno { return c.s.Rename(beside, name) },
		c.s.Names,
	)
	if e != api.OK {
		return c.undo(e)
	}
	return api.OK
}

// inOrder does calls one behind the other, up to the first that goes wrong.
func inOrder(calls ...func() api.Errno) api.Errno {
	for _, call := range calls {
		if e := call(); e != api.OK {
			return e
		}
	}
	return api.OK
}

// undo: what was written and isn't the chronicle's goes away. It answers what went wrong, or what does with that.
func (c *Chronicle) undo(e api.Errno) api.Errno {
	if worse := c.tidy(); worse != api.OK {
		return worse
	}
	return e
}

// tidy: files that aren't the chronicle's are deleted. That is made safe: else they took room still, and one that
// a fall brings back might follow what was written since.
func (c *Chronicle) tidy() api.Errno {
	own := c.files()
	for _, name := range c.s.List() {
		if _, ok := own[name]; ok {
			continue
		}
		if e := c.s.Delete(name); e != api.OK {
			return e
		}
	}
	if c.s.Moves() == 0 {
		return api.OK
	}
	return c.s.Names()
}

// files are the names of the chronicle's files.
func (c *Chronicle) files() map[string]struct{} {
	own := map[string]struct{}{Index: {}}
	if c.head.Base != 0 {
		own[Base(c.head.Base)] = struct{}{}
	}
	for _, v := range c.volumes {
		own[Name(v.No)] = struct{}{}
	}
	return own
}

// alone: the frame that some bytes are; false: they aren't one.
func alone(p []byte) (frame.Item, bool) {
	f, e := frame.One(p, 0)
	return f, e == api.OK && f.End == len(p)
}
