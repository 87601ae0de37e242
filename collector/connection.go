package collector

import (
	"routelog/api"
	"routelog/message"
)

// connection is a peer's session, and the bytes of it that are not yet used.
type connection struct {
	session *session
	stream  stream
}

// Connect begins a connection, and answers what is said at first (P15).
func (c *Collector) Connect(peer int) (string, api.Errno) {
	if e := c.checkPeer(peer); e != api.OK {
		return "", e
	}
	if c.connections[peer] != nil {
		return "", api.ErrOpen
	}
	s := &session{log: c.log, peer: peer, hold: api.Hold, last: c.log.Now()}
	c.connections[peer] = &connection{session: s, stream: stream{speaker: s}}
	return message.Opening(), api.OK
}

// Receive takes bytes of a connection, and answers what is said to them (P16).
func (c *Collector) Receive(peer int, b string) (string, api.Errno) {
	if e := c.checkConnection(peer); e != api.OK {
		return "", e
	}
	said, e := c.connections[peer].stream.hear(b)
	if full := c.settle(); full != api.OK {
		return "", full
	}
	return said, e
}

// Disconnect ends a connection (P15).
func (c *Collector) Disconnect(peer int) api.Errno {
	if e := c.checkConnection(peer); e != api.OK {
		return e
	}
	c.connections[peer].session.end()
	return c.settle()
}

// checkPeer answers why a call about a connection is refused, whether there is one or not.
func (c *Collector) checkPeer(peer int) api.Errno {
	if e := c.check(); e != api.OK {
		return e
	}
	if peer < 0 || peer >= api.Sessions {
		return api.ErrPeer
	}
	return api.OK
}

// checkConnection answers why a call is refused that needs a connection.
func (c *Collector) checkConnection(peer int) api.Errno {
	if e := c.checkPeer(peer); e != api.OK {
		return e
	}
	if c.connections[peer] == nil {
		return api.ErrClosed
	}
	return api.OK
}
