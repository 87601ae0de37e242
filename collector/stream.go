package collector

import (
	"strings"

	"routelog/api"
)

// speaker is whom a collector hears, and answers: a peer over a session of its own, or the feed, which speaks for several.
type speaker interface {
	// cut answers how many bytes the whole piece has that begins b: 0, if it is not all there; false, if it may not be.
	cut(b string) (n int, ok bool)
	// take does what a whole piece asks for, and answers what is said to it, and whether more is taken.
	take(piece string) (said string, more bool)
	// spoil does what bytes lead to that are no pieces, and answers what is said to them.
	spoil() (said string, e api.Errno)
}

// stream is a speaker, and the bytes of it that are not yet used.
type stream struct {
	speaker speaker
	rest    string
}

// hear takes bytes, as long as they and those that were left begin with whole pieces, and answers all that is said to them.
func (s *stream) hear(b string) (said string, e api.Errno) {
	b = s.rest + b
	s.rest = ""
	for {
		n, ok := s.speaker.cut(b)
		if !ok {
			last, e := s.speaker.spoil()
			return said + last, e
		}
		if n == 0 {
			// A copy doesn't hold on to the bytes that are used.
			s.rest = strings.Clone(b)
			return said, api.OK
		}
		answer, more := s.speaker.take(b[:n])
		said += answer
		if !more {
			return said, api.OK
		}
		b = b[n:]
	}
}
