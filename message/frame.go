// Package message: messages as bytes: where one ends, what openings and updates tell, and those that are sent or told again.
package message

import (
	"strings"

	"routelog/api"
	"routelog/number"
)

const (
	mark      = "\xff\xff\xff\xff\xff\xff\xff\xff\xff\xff\xff\xff\xff\xff\xff\xff"
	lengthEnd = len(mark) + 2
	headSize  = lengthEnd + 1
)

// Frame answers the length and the type of the message that begins b; 0 and 0, if it is not whole yet (P3).
func Frame(b string) (int, int, api.Errno) {
	if !strings.HasPrefix(mark, b[:min(len(b), len(mark))]) {
		return 0, 0, api.ErrFrame
	}
	if len(b) < lengthEnd {
		return 0, 0, api.OK
	}
	n := number.Read(b[len(mark):lengthEnd])
	if n < headSize || n > api.MaxMessage {
		return 0, 0, api.ErrFrame
	}
	if len(b) < n {
		return 0, 0, api.OK
	}
	return n, int(b[lengthEnd]), api.OK
}

// Split answers the type and the content of a whole message.
func Split(m string) (kind int, content string) {
	return int(m[lengthEnd]), m[headSize:]
}

// build answers the message of a type whose content is these parts, one behind the other.
// Whoever calls looks at its length: two bytes can't tell every one.
func build(kind int, parts ...string) string {
	content := join(parts...)
	return join(mark, number.Write(headSize+len(content), 2), number.Write(kind, 1), content)
}

func join(parts ...string) string {
	return strings.Join(parts, "")
}
