package routelog_test

import (
	"slices"
	"testing"

	"routelog/api"
	"routelog/routelog"
)

// The notices with which a connection ends.
const (
	noticeNoMessage     = 1
	noticeOpening       = 2
	noticeUpdate        = 3
	noticeSilence       = 4
	noticeType          = 5
	noticeTooManyRoutes = 6
)

// notice answers the message that tells why a connection ends.
func notice(n int) string {
	return framed(api.Notification, string([]byte{byte(n), 0}))
}

// alive is a KeepAlive without content.
var alive = framed(api.KeepAlive, "")

// hello answers what is said at first to each peer that connects.
func hello(t *testing.T) string {
	t.Helper()
	return framed(api.Opening, unhex(t, "04 fd e8 00 5a 00 00 00 01 08 02 06 41 04 00 00 fd e8"))
}

// wide is the capability that an opening must tell.
const wide = "\x41\x04\x00\x00\x00\x09"

// field answers a parameter or a capability.
func field(kind int, value string) string {
	return string([]byte{byte(kind), byte(len(value))}) + value
}

// introducing answers the content of an opening with this hold and these parameters.
func introducing(hold int, parameters string) string {
	return "\x04\x00\x09" + twoBytes(hold) + "\x07\x08\x09\x0a" + string([]byte{byte(len(parameters))}) + parameters
}

// greeting answers a peer's opening that is in order, with this hold.
func greeting(hold int) string {
	return framed(api.Opening, introducing(hold, field(2, wide)))
}

// stages are those of a connection, each with what leads there from the one ahead of it, and what is said to that.
var stages = []struct{ name, heard, said string }{
	{"waiting", "", ""},
	{"confirming", greeting(api.Hold), alive},
	{"running", alive, ""},
}

// running is the last of the stages.
const running = 2

// connect begins a connection of a peer.
func connect(t *testing.T, c *routelog.Collector, peer int) {
	t.Helper()
	if said, e := c.Connect(peer); said != hello(t) || e != api.OK {
		t.Errorf("Connect(%d) = %x, %d", peer, said, e)
	}
}

// receive lets a collector hear bytes of a peer that has a connection.
func receive(t *testing.T, c *routelog.Collector, peer int, b, want string) {
	t.Helper()
	if said, e := c.Receive(peer, b); said != want || e != api.OK {
		t.Errorf("Receive(%d, %x) = %x, %d, want %x", peer, b, said, e, want)
	}
}

// disconnect ends a connection of a peer.
func disconnect(t *testing.T, c *routelog.Collector, peer int) {
	t.Helper()
	checkErrors(t, "Disconnect", api.OK, c.Disconnect(peer))
}

// bring begins a connection of a peer, and brings it to a stage.
func bring(t *testing.T, c *routelog.Collector, peer, stage int) {
	t.Helper()
	connect(t, c, peer)
	for _, s := range stages[:stage+1] {
		receive(t, c, peer, s.heard, s.said)
	}
}

// runs begins a connection of each of these peers, and brings it to the last stage.
func runs(t *testing.T, c *routelog.Collector, peers ...int) {
	t.Helper()
	for _, peer := range peers {
		bring(t, c, peer, running)
	}
}

// upAt answers the records of a peer that has come to a stage.
func upAt(time, peer, stage int) []api.Record {
	if stage < running {
		return nil
	}
	return []api.Record{up(time, peer)}
}

// downFrom answers the records of a peer whose connection ends in a stage.
func downFrom(time, peer, stage int) []api.Record {
	if stage < running {
		return nil
	}
	return []api.Record{down(time, peer)}
}

// checkConnected looks at peers that have a connection; nothing is changed.
func checkConnected(t *testing.T, what string, c *routelog.Collector, peers ...int) {
	t.Helper()
	for _, peer := range peers {
		said, e1 := c.Connect(peer)
		answer, e2 := c.Receive(peer, "")
		if said != "" || e1 != api.ErrOpen || answer != "" || e2 != api.OK {
			t.Errorf("%s: peer %d: Connect = %x, %d, Receive = %x, %d, want a connection", what, peer, said, e1, answer, e2)
		}
	}
}

// checkClosed looks at peers that have no connection, of a collector that writes; nothing is changed.
func checkClosed(t *testing.T, what string, c *routelog.Collector, peers ...int) {
	t.Helper()
	for _, peer := range peers {
		for _, b := range []string{"", alive, "wrong"} {
			if said, e := c.Receive(peer, b); said != "" || e != api.ErrClosed {
				t.Errorf("%s: Receive(%d, %x) = %x, %d, want no connection", what, peer, b, said, e)
			}
		}
		checkErrors(t, what+", Disconnect", api.ErrClosed, c.Disconnect(peer))
	}
}

// checkSent looks at what Tick answers.
func checkSent(t *testing.T, c *routelog.Collector, time int, want ...api.Sent) {
	t.Helper()
	if sent, e := c.Tick(time); !slices.Equal(sent, want) || e != api.OK {
		t.Errorf("Tick(%d) = %x, %d, want %x", time, sent, e, want)
	}
}

// silenced answers what Tick says to these peers.
func silenced(peers ...int) []api.Sent {
	var l []api.Sent
	for _, peer := range peers {
		l = append(l, api.Sent{Peer: peer, Bytes: notice(noticeSilence)})
	}
	return l
}
