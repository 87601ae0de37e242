package collector

import (
	"routelog/api"
	"routelog/journal"
	"routelog/message"
	"routelog/number"
	"routelog/state"
)

// mark begins every frame.
const mark = 3

// Where the parts of a frame end.
const (
	markEnd   = 1
	lengthEnd = markEnd + 2
	headSize  = lengthEnd + 1
)

// The types of frames.
const (
	updated = 0 // a peer told an update
	gone    = 2
	came    = 3
	allGone = 5
)

// The fed peers.
const (
	firstFed = api.Sessions
	lastFed  = api.Peers - 1
)

// feed speaks for the fed peers. Nothing is said to it.
type feed struct {
	log *journal.Writer
}

func (f feed) cut(b string) (n int, ok bool) {
	if b != "" && b[0] != mark {
		return 0, false
	}
	if len(b) < lengthEnd {
		return 0, true
	}
	n = number.Read(b[markEnd:lengthEnd])
	if n < headSize || n > api.MaxFrame {
		return 0, false
	}
	if len(b) < n {
		return 0, true
	}
	return n, true
}

func (f feed) take(frame string) (said string, more bool) {
	kind, content := int(frame[lengthEnd]), frame[headSize:]
	if kind == allGone {
		f.log.Down(firstFed, lastFed)
	} else if content != "" {
		f.tell(kind, int(content[0]), content[1:])
	}
	return "", !f.log.Full()
}

func (f feed) spoil() (said string, e api.Errno) {
	f.log.Down(firstFed, lastFed)
	return "", api.ErrFeed
}

// tell does what a frame about one peer asks for.
func (f feed) tell(kind, peer int, rest string) {
	if peer < firstFed || peer > lastFed {
		return
	}
	switch {
	case kind == updated:
		f.update(peer, rest)
	case kind == gone && rest == "":
		f.log.Down(peer, peer)
	case kind == came && rest == "":
		f.log.Write(api.Up, peer, "")
	}
}

// update does what an update of a peer asks for.
func (f feed) update(peer int, m string) {
	s := f.log.State()
	if !s.IsUp(peer) {
		return
	}
	_, e := message.Update(m)
	if e != api.OK || routesBehind(s, peer, m) > api.MaxRoutes {
		f.log.Down(peer, peer)
		return
	}
	f.log.Write(api.Message, peer, m)
}

// routesBehind answers how many routes an update would leave to a peer that is up. The state is of no use then.
func routesBehind(s state.State, peer int, m string) int {
	s.Apply(api.Record{Kind: api.Message, Peer: peer, Body: m})
	routes, _ := s.Routes(peer)
	return len(routes)
}
