// Package state: which peers are up and which routes they have, and what a record does to that.
package state

import (
	"cmp"
	"maps"
	"slices"

	"routelog/api"
	"routelog/message"
	"routelog/record"
)

type peer struct {
	up     bool
	routes map[api.Prefix]api.Entry // empty, if the peer is not up
}

// State is what the peers have. At first none is up.
type State struct {
	peers [api.Peers]peer
}

// Apply does to the state what a record of the log does to it.
func (s *State) Apply(r api.Record) {
	switch r.Kind {
	case api.Head:
		*s = State{}
	case api.Up:
		s.peers[r.Peer] = peer{up: true, routes: map[api.Prefix]api.Entry{}}
	case api.Down:
		s.peers[r.Peer] = peer{}
	case api.Route:
		if e, ok := record.ReadRoute(r.Body); ok {
			s.peers[r.Peer].put(e)
		}
	case api.Message:
		if c, e := message.Update(r.Body); e == api.OK {
			s.peers[r.Peer].change(c)
		}
	}
}

// IsUp tells whether a peer is up.
func (s *State) IsUp(number int) bool {
	return s.peers[number].up
}

// Routes answers the routes of a peer, by address and then by length, and whether it is up.
func (s *State) Routes(number int) ([]api.Entry, bool) {
	p := s.peers[number]
	return slices.SortedFunc(maps.Values(p.routes), compare), p.up
}

// change does what an update does: what it announces comes behind what it withdraws.
func (p *peer) change(c api.Change) {
	for _, w := range c.Withdrawn {
		delete(p.routes, w)
	}
	for _, a := range c.Announced {
		p.put(api.Entry{Addr: a.Addr, Len: a.Len, Attrs: c.Attrs})
	}
}

// put gives a peer that is up a route.
func (p *peer) put(e api.Entry) {
	if p.up {
		p.routes[api.Prefix{Addr: e.Addr, Len: e.Len}] = e
	}
}

func compare(a, b api.Entry) int {
	return cmp.Or(cmp.Compare(a.Addr, b.Addr), cmp.Compare(a.Len, b.Len))
}
