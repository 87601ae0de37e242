package routelog_test

import (
	"slices"
	"testing"

	"routelog/api"
	"routelog/routelog"
)

// plenty is room for all that a test writes.
const plenty = 1000000

// The types of frames.
const (
	frameUpdate  = 0
	frameGone    = 2
	frameCame    = 3
	frameAllGone = 5
)

// frame answers a frame of the feed.
func frame(kind int, content string) string {
	return "\x03" + twoBytes(4+len(content)) + string([]byte{byte(kind)}) + content
}

func came(peer int) string {
	return frame(frameCame, string([]byte{byte(peer)}))
}

func gone(peer int) string {
	return frame(frameGone, string([]byte{byte(peer)}))
}

// says answers the frame with which a peer tells an update.
func says(peer int, update string) string {
	return frame(frameUpdate, string([]byte{byte(peer)})+update)
}

func up(time, peer int) api.Record {
	return api.Record{Time: time, Kind: api.Up, Peer: peer}
}

func down(time, peer int) api.Record {
	return api.Record{Time: time, Kind: api.Down, Peer: peer}
}

// heardFrom answers a Message of any peer.
func heardFrom(time, peer int, body string) api.Record {
	return api.Record{Time: time, Kind: api.Message, Peer: peer, Body: body}
}

// opening answers what a segment begins with: a Head, what is told, a Body, all of one time.
func opening(time int, told ...api.Record) string {
	l := append([]api.Record{{Kind: api.Head}}, told...)
	l = append(l, api.Record{Kind: api.Body})
	for i := range l {
		l[i].Time = time
	}
	return logged(l...)
}

// indexed answers the index of segments: of each its number and the time of its first record.
func indexed(l ...int) string {
	s := ""
	for i := 0; i < len(l); i += 2 {
		s += twoBytes(l[i]) + fourBytes(l[i+1])
	}
	return summed(s)
}

// sized answers a segment of just so many bytes, by which no peer is up.
func sized(t *testing.T, n int) string {
	t.Helper()
	s := opening(0)
	for left := (n - len(s)) / 100; left > 0; left-- {
		s += padding((n - len(s)) / left)
	}
	if _, scanned := routelog.Scan(s); len(s) != n || scanned != n {
		t.Fatalf("a segment of %d bytes has %d, and %d in records", n, len(s), scanned)
	}
	return s
}

// padding answers a record of so many bytes, 50 at least, that does nothing.
func padding(n int) string {
	bare := len(logged(heardFrom(0, 0, updating("", "\xc0\x63\x00", ""))))
	value := string(make([]byte, n-bare))
	return logged(heardFrom(0, 0, updating("", "\xc0\x63"+string([]byte{byte(len(value))})+value, "")))
}

// opened answers a collector that writes.
func opened(t *testing.T, d *routelog.Disk) *routelog.Collector {
	t.Helper()
	c := openedAnyhow(t, d)
	checkWrites(t, "opened", c, true)
	return c
}

// openedFull answers a collector that is full when it is opened.
func openedFull(t *testing.T, d *routelog.Disk) *routelog.Collector {
	t.Helper()
	c := openedAnyhow(t, d)
	checkFull(t, "opened", d, c)
	return c
}

func openedAnyhow(t *testing.T, d *routelog.Disk) *routelog.Collector {
	t.Helper()
	c, e := routelog.Open(d)
	if c == nil || e != api.OK {
		t.Fatalf("Open = %v, %d", c, e)
	}
	return c
}

// feed lets a collector hear bytes that it takes.
func feed(t *testing.T, c *routelog.Collector, frames ...string) {
	t.Helper()
	for _, b := range frames {
		if e := c.Feed(b); e != api.OK {
			t.Errorf("Feed(%x) = %d", b, e)
		}
	}
}

// tick lets time pass to t.
func tick(t *testing.T, c *routelog.Collector, time int) {
	t.Helper()
	if l, e := c.Tick(time); len(l) != 0 || e != api.OK {
		t.Errorf("Tick(%d) = %v, %d", time, l, e)
	}
}

func checkWrites(t *testing.T, what string, c *routelog.Collector, want bool) {
	t.Helper()
	if writes, e := c.Writes(); writes != want || e != api.OK {
		t.Errorf("%s: Writes = %v, %d, want %v", what, writes, e, want)
	}
}

// checkHas looks at the routes of a peer that is up by a collector.
func checkHas(t *testing.T, what string, c *routelog.Collector, peer int, want ...api.Entry) {
	t.Helper()
	got, up, e := c.Routes(peer)
	if !slices.Equal(got, want) || !up || e != api.OK {
		t.Errorf("%s: Routes(%d) = %x, %v, %d, want %x", what, peer, got, up, e, want)
	}
}

// checkHasNot looks at peers that are not up by a collector.
func checkHasNot(t *testing.T, what string, c *routelog.Collector, peers ...int) {
	t.Helper()
	for _, peer := range peers {
		if l, up, e := c.Routes(peer); len(l) != 0 || up || e != api.OK {
			t.Errorf("%s: Routes(%d) = %x, %v, %d, want a peer that is not up", what, peer, l, up, e)
		}
	}
}

// checkAgrees looks whether a collector has of every peer what its disk tells of it (P12).
func checkAgrees(t *testing.T, what string, d *routelog.Disk, c *routelog.Collector) {
	t.Helper()
	for peer := range api.Peers {
		got, up, e := c.Routes(peer)
		want, wantUp, _ := routelog.Query(d, peer, api.MaxTime)
		if !slices.Equal(got, want) || up != wantUp || e != api.OK {
			t.Errorf("%s: Routes(%d) = %x, %v, %d, and the disk tells %x, %v", what, peer, got, up, e, want, wantUp)
		}
	}
}

// filesOf answers all that is in a disk's files.
func filesOf(d *routelog.Disk) content {
	files := content{}
	names, _ := d.List()
	for _, name := range names {
		files[name], _ = d.Read(name)
	}
	return files
}

// checkFull looks whether a collector refuses all that it must refuse, and changes nothing, nor forgets what it has.
func checkFull(t *testing.T, what string, d *routelog.Disk, c *routelog.Collector) {
	t.Helper()
	files := filesOf(d)
	checkWrites(t, what, c, false)
	for _, n := range []int{minInt, -1, 0, 4, 5, api.Peers, api.MaxTime, api.MaxTime + 1, maxInt} {
		opening, e1 := c.Connect(n)
		answer, e2 := c.Receive(n, "any")
		sent, e3 := c.Tick(n)
		checkErrors(t, what+", full", api.ErrFull, e1, e2, e3, c.Disconnect(n), c.Sync(), c.Feed(""), c.Feed(came(4)), c.Feed(frame(frameAllGone, "")), c.Feed("wrong"))
		if opening != "" || answer != "" || len(sent) != 0 {
			t.Errorf("%s: a full collector says %q, %q, %v", what, opening, answer, sent)
		}
	}
	checkWrites(t, what, c, false)
	checkFiles(t, what+", full", d, files)
	checkAgrees(t, what+", full", d, c)
	if _, there := files["tmp"]; there {
		t.Errorf("%s: tmp is left", what)
	}
}
