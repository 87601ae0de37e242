// Package journal: the log of a disk, and what the peers had by it.
package journal

import (
	"routelog/api"
	"routelog/disk"
	"routelog/record"
	"routelog/state"
)

// records hands on the records of segments, one by one, and then closes the channel.
// Whoever asks must range over them to the end: only then does nobody read the disk any more.
func records(d *disk.Disk, names ...string) <-chan api.Record {
	out := make(chan api.Record)
	go func() {
		defer close(out)
		for _, name := range names {
			// A file that is listed can be read.
			b, _ := d.Read(name)
			l, _ := record.Scan(b)
			for _, r := range l {
				out <- r
			}
		}
	}()
	return out
}

// Query answers the routes that a peer had at a time, and whether it was up then (P11).
func Query(d *disk.Disk, peer, t int) ([]api.Entry, bool, api.Errno) {
	if d == nil {
		return nil, false, api.ErrNil
	}
	if peer < 0 || peer >= api.Peers {
		return nil, false, api.ErrPeer
	}
	if t < 0 || t > api.MaxTime {
		return nil, false, api.ErrArg
	}
	s := stateAt(d, t)
	routes, up := s.Routes(peer)
	return routes, up, api.OK
}

// stateAt answers the state that comes of the records ahead of the first whose time is above t.
func stateAt(d *disk.Disk, t int) state.State {
	var s state.State
	above := false
	for r := range records(d, segments(d)...) {
		above = above || r.Time > t
		if !above {
			s.Apply(r)
		}
	}
	return s
}

// stateAtEnd answers the state that the whole log of a disk tells.
func stateAtEnd(d *disk.Disk) state.State {
	var s state.State
	for r := range records(d, sinceHead(d)...) {
		s.Apply(r)
	}
	return s
}

// sinceHead answers the last segments of a disk that tell the state on their own:
// those from the last one that begins with a Head. They are all of them, if none does.
func sinceHead(d *disk.Disk) []string {
	names := segments(d)
	for i := len(names) - 1; i > 0; i-- {
		if r, there := firstOf(d, names[i]); there && r.Kind == api.Head {
			return names[i:]
		}
	}
	return names
}

// firstOf answers the first record of a segment; false, if it has none.
func firstOf(d *disk.Disk, name string) (api.Record, bool) {
	b, _ := d.Read(name)
	r, n := record.First(b)
	return r, n > 0
}
