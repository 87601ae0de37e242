// Package journal: the log of a disk, and what the peers had by it.
package journal

import (
	"routelog/api"
	"routelog/disk"
	"routelog/record"
	"routelog/state"
)

// Records hands on the records of a disk's log, one by one, and then closes the channel.
// Whoever asks must range over them to the end: only then does nobody read the disk any more.
func Records(d *disk.Disk) <-chan api.Record {
	records := make(chan api.Record)
	go func() {
		defer close(records)
		for _, name := range segments(d) {
			// A file that is listed can be read.
			b, _ := d.Read(name)
			l, _ := record.Scan(b)
			for _, r := range l {
				records <- r
			}
		}
	}()
	return records
}

// Query answers the routes that a peer had at a time, and whether it was up then (P11).
func Query(d *disk.Disk, peer, t int) ([]api.Entry, bool, api.Errno) {
	if d == nil {
		return nil, false, api.ErrNil
	}
	if peer < 0 || peer >= api.Peers {
		return nil, false, api.ErrPeer
	}
	if t < 0 || t > api.MaxTime {
		return nil, false, api.ErrArg
	}
	s := stateAt(d, t)
	routes, up := s.Routes(peer)
	return routes, up, api.OK
}

// stateAt answers the state that comes of the records ahead of the first whose time is above t.
func stateAt(d *disk.Disk, t int) state.State {
	var s state.State
	above := false
	for r := range Records(d) {
		above = above || r.Time > t
		if !above {
			s.Apply(r)
		}
	}
	return s
}
