package journal

import (
	"routelog/api"
	"routelog/disk"
	"routelog/message"
)

// Replay answers the messages that tell the routes that a peer had at a time (P19).
func Replay(d *disk.Disk, peer, t int) ([]string, api.Errno) {
	routes, up, e := Query(d, peer, t)
	if e != api.OK {
		return nil, e
	}
	if !up {
		return nil, api.ErrDown
	}
	l := []string{message.Opening(), message.KeepAlive()}
	for _, r := range routes {
		m, e := message.Announce(r.Attrs, []api.Prefix{{Addr: r.Addr, Len: r.Len}})
		if e != api.OK {
			return nil, e
		}
		l = append(l, m)
	}
	return l, api.OK
}
