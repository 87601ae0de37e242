package journal

import (
	"routelog/api"
	"routelog/disk"
	"routelog/record"
)

// Open mends what a crash left of the log of a disk, and answers who goes on writing it: no peer is up then (P13).
func Open(d *disk.Disk) *Writer {
	w := &Writer{disk: d}
	d.Delete(tmp)
	names := segments(d)
	for _, name := range names {
		cutTorn(d, name)
		w.last = numberOf(name)
	}
	for r := range records(d, names...) {
		w.Pass(r.Time)
	}
	if len(names) == 0 {
		w.begin()
	}
	w.Down(0, api.Peers-1)
	w.Sync()
	w.writeIndex()
	return w
}

// cutTorn takes from a segment what stands behind its records.
func cutTorn(d *disk.Disk, name string) {
	b, _ := d.Read(name)
	// A call that changes nothing would bring a disk that is to break nearer to that.
	if _, n := record.Scan(b); n < len(b) {
		d.Truncate(name, n)
	}
}
