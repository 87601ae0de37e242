package message

import (
	"routelog/api"
	"routelog/number"
)

// KeepAlive answers the message that only tells that the collector is there.
func KeepAlive() string {
	return build(api.KeepAlive)
}

// Notice answers the message that tells the peer why its connection ends (P16).
func Notice(n int) string {
	return build(api.Notification, number.Write(n, 1), number.Write(0, 1))
}
