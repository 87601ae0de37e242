package message

import (
	"strings"
	"testing"
)

// A value of more than 255 bytes makes every update too long, so that only here its length of two bytes is to be seen.
func TestWriteAttributes(t *testing.T) {
	for _, c := range []struct {
		n    int
		head string
	}{
		{0, "\xe0\x63\x00"}, {1, "\xe0\x63\x01"}, {255, "\xe0\x63\xff"}, {256, "\xf0\x63\x01\x00"}, {65535, "\xf0\x63\xff\xff"},
	} {
		value := strings.Repeat("v", c.n)
		a := attribute{flags: optional | transitive | partial, kind: 99, value: value}
		if got := writeAttributes(a, a); got != c.head+value+c.head+value {
			t.Errorf("a value of %d bytes: %.20x", c.n, got)
		}
	}
	if got := writeAttributes(); got != "" {
		t.Errorf("no attributes: %x", got)
	}
}
