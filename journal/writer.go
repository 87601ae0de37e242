package journal

import (
	"routelog/api"
	"routelog/disk"
	"routelog/number"
	"routelog/record"
	"routelog/state"
)

// The files beside the segments.
const (
	index = "index"
	tmp   = "tmp" // what is to become a segment or the index
)

// Writer writes the log of a disk. Once it is full, nothing that it is asked for does anything (P14).
type Writer struct {
	disk *disk.Disk
	now  int
	last int // the number of the last segment
	full bool
}

// Full tells whether the writer writes no more.
func (w *Writer) Full() bool {
	return w.full
}

// State answers the state that the log tells.
func (w *Writer) State() state.State {
	return stateAtEnd(w.disk)
}

// Now answers the time that is now.
func (w *Writer) Now() int {
	return w.now
}

// Pass lets time pass, to t if that is not over yet.
func (w *Writer) Pass(t int) {
	w.now = max(w.now, t)
}

// Sync lets the log outlast a crash.
func (w *Writer) Sync() {
	if !w.full {
		w.disk.Sync(nameOf(w.last))
	}
}

// Down writes a Down of each peer that is up, from the first of these to the last.
func (w *Writer) Down(first, last int) {
	s := w.State()
	for peer := first; peer <= last; peer++ {
		if s.IsUp(peer) {
			w.Write(api.Down, peer, "")
		}
	}
}

// Write writes a record (P12).
func (w *Writer) Write(kind, peer int, body string) {
	b, _ := w.disk.Read(nameOf(w.last))
	if len(b) >= api.SegmentSize {
		w.Sync()
		w.begin()
	}
	w.append(nameOf(w.last), record.Write(w.timed(kind, peer, body)))
}

// begin begins a segment (P12).
func (w *Writer) begin() {
	// This is looked at ahead of all that is laid: no part of the segment may be left.
	if w.last == api.MaxSegment {
		w.full = true
		return
	}
	if w.lay(nameOf(w.last+1), record.Write(w.opening()...)) {
		w.last++
		w.writeIndex()
	}
}

// opening answers the records that begin a segment: they tell the state.
func (w *Writer) opening() []api.Record {
	s := w.State()
	l := []api.Record{w.timed(api.Head, 0, "")}
	for peer := range api.Peers {
		routes, up := s.Routes(peer)
		if up {
			l = append(l, w.timed(api.Up, peer, ""))
		}
		for _, e := range routes {
			l = append(l, w.timed(api.Route, peer, record.WriteRoute(e)))
		}
	}
	return append(l, w.timed(api.Body, 0, ""))
}

// timed answers a record of the time that is now.
func (w *Writer) timed(kind, peer int, body string) api.Record {
	return api.Record{Time: w.now, Kind: kind, Peer: peer, Body: body}
}

// writeIndex writes the index (P10).
func (w *Writer) writeIndex() {
	var parts []string
	for _, name := range segments(w.disk) {
		// Of a segment without a record this is the empty one, whose time is 0.
		r, _ := firstOf(w.disk, name)
		parts = append(parts, number.Write(numberOf(name), 2), number.Write(r.Time, 4))
	}
	w.lay(index, record.Summed(parts...))
}

// lay makes a file, and tells whether it did. The file has its name only once all of it outlasts a crash.
func (w *Writer) lay(name, content string) bool {
	if w.full {
		return false
	}
	w.disk.Delete(tmp)
	if !w.append(tmp, content) {
		return false
	}
	w.disk.Sync(tmp)
	w.disk.Rename(tmp, name)
	return true
}

// append writes at the end of a file, and tells whether it did. A disk refuses that only for want of room.
func (w *Writer) append(name, b string) bool {
	w.full = w.full || w.disk.Append(name, b) != api.OK
	return !w.full
}
