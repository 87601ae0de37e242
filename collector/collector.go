// Package collector: what peers tell, over sessions of their own or over the feed, and what is written of that.
package collector

import (
	"routelog/api"
	"routelog/disk"
	"routelog/journal"
)

// Collector is those who are heard, and the log that is written of what they tell.
// What the peers have is told by the log alone.
type Collector struct {
	log         *journal.Writer
	feed        stream
	connections [api.Sessions]*connection // nil of a peer that has none
}

// Open begins to collect on a disk (P13).
func Open(d *disk.Disk) (*Collector, api.Errno) {
	if d == nil {
		return nil, api.ErrNil
	}
	log := journal.Open(d)
	return &Collector{log: log, feed: stream{speaker: feed{log}}}, api.OK
}

// Feed takes bytes of the feed (P17).
func (c *Collector) Feed(b string) api.Errno {
	if e := c.check(); e != api.OK {
		return e
	}
	_, e := c.feed.hear(b)
	// That the collector has become full tells more than what else was wrong.
	if full := c.settle(); full != api.OK {
		return full
	}
	return e
}

// Tick lets time pass, and answers what is said to the peers that were silent for too long (P18).
func (c *Collector) Tick(t int) ([]api.Sent, api.Errno) {
	if e := c.check(); e != api.OK {
		return nil, e
	}
	if t < 0 || t > api.MaxTime {
		return nil, api.ErrArg
	}
	c.log.Pass(t)
	var sent []api.Sent
	for peer, open := range c.connections {
		if open != nil && open.session.silent() {
			sent = append(sent, api.Sent{Peer: peer, Bytes: open.session.endWith(silence)})
		}
	}
	if e := c.settle(); e != api.OK {
		return nil, e
	}
	return sent, api.OK
}

// Sync makes the log outlast a crash (P18).
func (c *Collector) Sync() api.Errno {
	if e := c.check(); e != api.OK {
		return e
	}
	c.log.Sync()
	return api.OK
}

// Routes answers the routes that a peer has, and whether it is up (P18).
func (c *Collector) Routes(peer int) ([]api.Entry, bool, api.Errno) {
	if c == nil {
		return nil, false, api.ErrNil
	}
	if peer < 0 || peer >= api.Peers {
		return nil, false, api.ErrPeer
	}
	s := c.log.State()
	routes, up := s.Routes(peer)
	return routes, up, api.OK
}

// Writes tells whether the collector still writes (P14).
func (c *Collector) Writes() (bool, api.Errno) {
	if c == nil {
		return false, api.ErrNil
	}
	return !c.log.Full(), api.OK
}

// check answers why a call that may write is refused whatever else it is given.
func (c *Collector) check() api.Errno {
	if c == nil {
		return api.ErrNil
	}
	if c.log.Full() {
		return api.ErrFull
	}
	return api.OK
}

// settle lets go of the connections that a call has ended, and answers ErrFull, if it was the one that met that:
// then it lets go of all (P14).
func (c *Collector) settle() api.Errno {
	e := c.check()
	for peer, open := range c.connections {
		if open != nil && (e != api.OK || open.session.stage == ended) {
			c.connections[peer] = nil
		}
	}
	return e
}
