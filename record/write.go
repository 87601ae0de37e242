package record

import (
	"strings"

	"routelog/api"
	"routelog/number"
)

// Write answers records as bytes, one behind the other.
func Write(l ...api.Record) string {
	var parts []string
	for _, r := range l {
		parts = append(parts, Summed(
			number.Write(r.Time, timeEnd),
			number.Write(r.Kind, peerAt-kindAt),
			number.Write(r.Peer, peerEnd-peerAt),
			number.Write(len(r.Body), headEnd-peerEnd),
			r.Body,
		))
	}
	return strings.Join(parts, "")
}

// WriteRoute answers the body of a Route.
func WriteRoute(e api.Entry) string {
	return number.Write(e.Len, lengthEnd) + number.Write(e.Addr, addressEnd-lengthEnd) + e.Attrs
}

// Summed answers these parts one behind the other, and the sum of all their bytes.
func Summed(parts ...string) string {
	b := strings.Join(parts, "")
	return b + number.Write(sum(b), sumSize)
}
