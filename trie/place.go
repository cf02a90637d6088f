package trie

import (
	"milestone/api"
	"milestone/prefix"
)

// place is a prefix in which all lies that is come to by it: its own route, if it has one, and two ways, by the first
// bit behind the prefix. A place without a route has both ways: it is there because they part.
type place struct {
	p    api.Prefix
	has  bool
	r    api.Route
	ways [2]*place
}

// put puts a route into what lies from a place on: what that is then, and whether its prefix had no route.
func put(at *place, r api.Route) (*place, bool) {
	if at == nil {
		return newPlace(r), true
	}
	if !prefix.Within(r.P, at.p) {
		return put(ahead(at, r.P), r)
	}
	if r.P == at.p {
		isNew := !at.has
		at.has, at.r = true, r
		return at, isNew
	}
	side := at.side(r.P.Addr)
	way, isNew := put(at.ways[side], r)
	at.ways[side] = way
	return at, isNew
}

// newPlace is the place of a route that leads nowhere yet.
func newPlace(r api.Route) *place {
	return &place{p: r.P, has: true, r: r}
}

// ahead is a place without a route, the longest one in which both another place and a prefix lie; it leads to the former.
func ahead(at *place, p api.Prefix) *place {
	fork := &place{p: prefix.Of(p.Addr, prefix.Common(at.p, p))}
	fork.ways[fork.side(at.p.Addr)] = at
	return fork
}

// drop takes the route of a prefix out of what lies from a place on: what stays of that, and whether there was one.
func drop(at *place, p api.Prefix) (*place, bool) {
	if at == nil {
		return nil, false
	}
	if p == at.p {
		wasThere := at.has
		at.has, at.r = false, api.Route{}
		return at.needed(), wasThere
	}
	side := at.side(p.Addr)
	way, wasThere := drop(at.ways[side], p)
	at.ways[side] = way
	return at.needed(), wasThere
}

// needed is what must stay of a place, so that nothing is kept of routes that are there no more: if it has no route,
// and its ways don't part, what they lead to alone.
func (at *place) needed() *place {
	switch {
	case at.has:
		return at
	case at.ways == [2]*place{}:
		return nil
	case at.ways[0] == nil:
		return at.ways[1]
	case at.ways[1] == nil:
		return at.ways[0]
	}
	return at
}

// side is by which way of a place an address is come to.
func (at *place) side(addr uint32) int {
	if prefix.Bit(addr, at.p.Len) {
		return 1
	}
	return 0
}

// appendAll appends the routes from a place on, rising by prefixes: a prefix stands ahead of what lies in it.
func appendAll(l []api.Route, at *place) []api.Route {
	if at == nil {
		return l
	}
	if at.has {
		l = append(l, at.r)
	}
	for _, way := range at.ways {
		l = appendAll(l, way)
	}
	return l
}
