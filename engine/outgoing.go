package engine

import (
	"slices"

	"milestone/api"
	"milestone/message"
	"milestone/prefix"
)

// outgoing is what is to go out.
type outgoing struct {
	// hellos is how many went out: the number of the next one.
	hellos uint64
	// due: is something of the ways to be told?
	due bool
	// lost are prefixes to which there was a way, rising, each once.
	lost []api.Prefix
	// requests go with the next packet, one of a prefix.
	requests []message.Part
}

// hello is the next hello.
func (o *outgoing) hello() message.Part {
	n := o.hellos
	o.hellos++
	return message.Part{Kind: message.Hello, N: n}
}

// lose: to a prefix there is no way any more.
func (o *outgoing) lose(p api.Prefix) {
	if at, has := slices.BinarySearchFunc(o.lost, p, prefix.Compare); !has {
		o.lost = slices.Insert(o.lost, at, p)
	}
}

// ask: a newer serial of a prefix is asked for, through so many, if there is room, and none is asked for yet.
func (o *outgoing) ask(p api.Prefix, seq uint16, n uint64) {
	asked := slices.ContainsFunc(o.requests, func(r message.Part) bool { return r.P == p })
	if !asked && len(o.requests) < api.MaxNodes {
		o.requests = append(o.requests, message.Part{Kind: message.Request, P: p, Seq: seq, N: n})
	}
}

// takeRequests: those that go out now; then there are none.
func (o *outgoing) takeRequests() []message.Part {
	taken := o.requests
	o.requests = nil
	return taken
}
