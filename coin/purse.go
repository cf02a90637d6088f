package coin

import (
	"milestone/api"
)

// Purse is bytes from which numbers are taken; when something is wrong nothing more is.
type Purse struct {
	rest  []byte
	fault api.Errno
}

// NewPurse: of some bytes.
func NewPurse(p []byte) *Purse {
	rest := make([]byte, len(p))
	copy(rest, p)
	return &Purse{rest: rest}
}

// Take: the next number, of at most that; behind a fault 0. ErrLong: it is more.
func (x *Purse) Take(most uint64) uint64 {
	if x.Fault() != api.OK {
		return 0
	}
	n, size, e := Get(x.rest)
	if e == api.OK && n > most {
		e = api.ErrLong
	}
	if e != api.OK {
		x.fault = e
		return 0
	}
	x.rest = x.rest[size:]
	return n
}

// Bytes: the next n bytes; behind a fault none. ErrShort: there are fewer.
func (x *Purse) Bytes(n int) []byte {
	if n < 0 || x.Fault() != api.OK {
		return nil
	}
	if n > len(x.rest) {
		x.fault = api.ErrShort
		return nil
	}
	taken := make([]byte, n)
	copy(taken, x.rest)
	x.rest = x.rest[n:]
	return taken
}

// Fault: what was wrong first.
func (x *Purse) Fault() api.Errno {
	if x == nil {
		return api.ErrNone
	}
	return x.fault
}

// Left: how many bytes are left, those that a fault was found in among them.
func (x *Purse) Left() int {
	if x == nil {
		return 0
	}
	return len(x.rest)
}

// End: what was wrong; ErrForm: something is left.
func (x *Purse) End() api.Errno {
	e := x.Fault()
	if e == api.OK && x.Left() > 0 {
		return api.ErrForm
	}
	return e
}
