package collector

import (
	"routelog/api"
	"routelog/journal"
	"routelog/message"
)

// stage is how far a connection has come.
type stage int

const (
	waiting    stage = iota // for the peer's opening
	confirming              // until the peer has taken ours
	running
	ended
)

// The notices with which a connection ends.
const (
	noMessage     = 1
	wrongOpening  = 2
	wrongUpdate   = 3
	silence       = 4
	wrongType     = 5
	tooManyRoutes = 6
)

// session speaks for one peer, over a connection of its own.
type session struct {
	log   *journal.Writer
	peer  int
	stage stage
	hold  int // how long the peer may be silent; 0: for ever
	last  int // when its last whole message came; at first, when the connection began
}

func (s *session) cut(b string) (n int, ok bool) {
	n, _, e := message.Frame(b)
	return n, e == api.OK
}

func (s *session) take(m string) (said string, more bool) {
	s.last = s.log.Now()
	kind, content := message.Split(m)
	switch {
	case kind == api.Notification:
		s.end()
	case s.stage == waiting && kind == api.Opening:
		said = s.open(content)
	case s.stage == confirming && kind == api.KeepAlive && content == "":
		s.stage = running
		s.log.Write(api.Up, s.peer, "")
	case s.stage == running && kind == api.KeepAlive && content == "":
		// That it came is all that it tells.
	case s.stage == running && kind == api.Updating:
		said = s.update(m)
	default:
		said = s.endWith(wrongType)
	}
	return said, s.stage != ended && !s.log.Full()
}

func (s *session) spoil() (said string, e api.Errno) {
	return s.endWith(noMessage), api.OK
}

// open takes the content of the peer's opening.
func (s *session) open(content string) string {
	hold, ok := message.ReadOpening(content)
	if !ok {
		return s.endWith(wrongOpening)
	}
	s.stage = confirming
	s.hold = min(api.Hold, hold)
	return message.KeepAlive()
}

// update does what an update of the peer asks for.
func (s *session) update(m string) string {
	if _, e := message.Update(m); e != api.OK {
		return s.endWith(wrongUpdate)
	}
	if routesBehind(s.log.State(), s.peer, m) > api.MaxRoutes {
		return s.endWith(tooManyRoutes)
	}
	s.log.Write(api.Message, s.peer, m)
	return ""
}

// silent tells whether no whole message has come for too long.
func (s *session) silent() bool {
	return s.hold > 0 && s.log.Now()-s.last >= s.hold
}

// end ends the connection.
func (s *session) end() {
	s.stage = ended
	s.log.Down(s.peer, s.peer)
}

// endWith ends the connection, and answers the notice that tells why.
func (s *session) endWith(notice int) string {
	s.end()
	return message.Notice(notice)
}
