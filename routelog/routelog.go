// Package routelog: a collector of routes that keeps what it hears in files: see DOC.md.
package routelog

import (
	"routelog/api"
	"routelog/collector"
	"routelog/disk"
	"routelog/journal"
	"routelog/message"
	"routelog/record"
)

// Disk is files.
type Disk struct {
	inner *disk.Disk
}

// files answers what the calls of a disk are about; nil of a disk that is nil.
func (d *Disk) files() *disk.Disk {
	if d == nil {
		return nil
	}
	return d.inner
}

// Collector is peers, what they have told, and a log on a disk.
type Collector struct {
	inner *collector.Collector
}

// work answers what the calls of a collector are about; nil of a collector that is nil.
func (c *Collector) work() *collector.Collector {
	if c == nil {
		return nil
	}
	return c.inner
}

// Frame tells the length and the type of the message that begins a stream (P3).
func Frame(b string) (int, int, api.Errno) { return message.Frame(b) }

// Update reads an update (P4, P5).
func Update(m string) (api.Change, api.Errno) { return message.Update(m) }

// Announce writes an update (P6).
func Announce(attrs string, l []api.Prefix) (string, api.Errno) { return message.Announce(attrs, l) }

// NewDisk makes an empty disk (P7).
func NewDisk(capacity int) *Disk { return &Disk{inner: disk.New(capacity)} }

// Append writes at the end of a file (P7).
func (d *Disk) Append(name string, b string) api.Errno { return d.files().Append(name, b) }

// Sync makes a file outlast a crash (P7).
func (d *Disk) Sync(name string) api.Errno { return d.files().Sync(name) }

// Rename gives a file another name (P7).
func (d *Disk) Rename(from string, to string) api.Errno { return d.files().Rename(from, to) }

// Delete removes a file (P7).
func (d *Disk) Delete(name string) api.Errno { return d.files().Delete(name) }

// Truncate cuts a file (P7).
func (d *Disk) Truncate(name string, n int) api.Errno { return d.files().Truncate(name, n) }

// Read tells what is in a file (P7).
func (d *Disk) Read(name string) (string, api.Errno) { return d.files().Read(name) }

// List tells the files' names (P7).
func (d *Disk) List() ([]string, api.Errno) { return d.files().List() }

// Used tells how many bytes all files have (P7).
func (d *Disk) Used() (int, api.Errno) { return d.files().Used() }

// Crash loses what was not synced (P8).
func (d *Disk) Crash(keep []int) api.Errno { return d.files().Crash(keep) }

// Break lets the disk break (P8).
func (d *Disk) Break(n int) api.Errno { return d.files().Break(n) }

// Scan reads records (P9).
func Scan(b string) ([]api.Record, int) { return record.Scan(b) }

// Query tells the routes that a peer had (P11).
func Query(d *Disk, peer int, t int) ([]api.Entry, bool, api.Errno) {
	return journal.Query(d.files(), peer, t)
}

// Open begins to collect (P13).
func Open(d *Disk) (*Collector, api.Errno) {
	c, e := collector.Open(d.files())
	if e != api.OK {
		return nil, e
	}
	return &Collector{inner: c}, api.OK
}

// Connect begins a connection (P15).
func (c *Collector) Connect(peer int) (string, api.Errno) { return c.work().Connect(peer) }

// Receive takes bytes of a connection (P16).
func (c *Collector) Receive(peer int, b string) (string, api.Errno) { return c.work().Receive(peer, b) }

// Disconnect ends a connection (P15).
func (c *Collector) Disconnect(peer int) api.Errno { return c.work().Disconnect(peer) }

// Feed takes bytes of the feed (P17).
func (c *Collector) Feed(b string) api.Errno { return c.work().Feed(b) }

// Tick lets time pass (P18).
func (c *Collector) Tick(t int) ([]api.Sent, api.Errno) { return c.work().Tick(t) }

// Sync makes the log outlast a crash (P18).
func (c *Collector) Sync() api.Errno { return c.work().Sync() }

// Routes tells the routes that a peer has (P18).
func (c *Collector) Routes(peer int) ([]api.Entry, bool, api.Errno) { return c.work().Routes(peer) }

// Writes tells whether the collector still writes (P14).
func (c *Collector) Writes() (bool, api.Errno) { return c.work().Writes() }

// Replay tells a peer's routes as messages (P19).
func Replay(d *Disk, peer int, t int) ([]string, api.Errno) {
	return journal.Replay(d.files(), peer, t)
}
