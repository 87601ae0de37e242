package routelog_test

import (
	"strings"
	"testing"

	"routelog/api"
	"routelog/routelog"
)

// spoken is a call, and what it says where it finds room.
type spoken struct {
	call func(*routelog.Collector) (string, api.Errno)
	said string
}

func connects(t *testing.T, peer int) spoken {
	t.Helper()
	return spoken{func(c *routelog.Collector) (string, api.Errno) { return c.Connect(peer) }, hello(t)}
}

func hears(peer int, b, said string) spoken {
	return spoken{func(c *routelog.Collector) (string, api.Errno) { return c.Receive(peer, b) }, said}
}

func disconnects(peer int) spoken {
	return spoken{func(c *routelog.Collector) (string, api.Errno) { return "", c.Disconnect(peer) }, ""}
}

func feeds(b string) spoken {
	return spoken{func(c *routelog.Collector) (string, api.Errno) { return "", c.Feed(b) }, ""}
}

// ticks says what is sent to all peers in one text.
func ticks(time int, said string) spoken {
	return spoken{func(c *routelog.Collector) (string, api.Errno) {
		sent, e := c.Tick(time)
		var all []string
		for _, s := range sent {
			all = append(all, s.Bytes)
		}
		return strings.Join(all, ""), e
	}, said}
}

// A disk of any size: what there is room for is written, and the call that finds none says nothing; all connections are gone then.
func TestFullOfSessionsAtAnyRoom(t *testing.T) {
	u := announcing(t, 1, "", "08 0a")
	h := historyOfOpen()
	var calls []spoken
	last := "s0001"
	add := func(call spoken, written ...api.Record) {
		calls = append(calls, call)
		h.call++
		for _, r := range written {
			h.write(last, logged(r))
		}
	}
	add(connects(t, 0))
	add(hears(0, greeting(90)+alive, alive), up(0, 0))
	add(connects(t, 1))
	add(hears(1, greeting(3)+alive+u, alive), up(0, 1), heardFrom(0, 1, u))
	add(connects(t, 2))
	add(hears(2, greeting(9)+alive, alive), up(0, 2))
	add(connects(t, 3))
	add(hears(3, greeting(3)+alive, alive), up(0, 3))
	add(feeds(came(4)+gone(4)), up(0, 4), down(0, 4))
	for len(h.files[last]) < api.SegmentSize {
		add(hears(0, u, ""), heardFrom(0, 0, u))
	}
	last = "s0002"
	add(hears(0, u+alive+u, ""))
	h.lay(last, opening(0, up(0, 0), told(t, 0, 0, ten, 1), up(0, 1), told(t, 0, 1, ten, 1), up(0, 2), up(0, 3)))
	h.lay("index", indexed(1, 0, 2, 0))
	h.write(last, logged(heardFrom(0, 0, u)))
	h.write(last, logged(heardFrom(0, 0, u)))
	add(ticks(3, notice(noticeSilence)+notice(noticeSilence)), down(3, 1), down(3, 3))
	add(disconnects(2), down(3, 2))
	add(hears(0, u+"x"+u, notice(noticeNoMessage)), heardFrom(3, 0, u), down(3, 0))
	add(connects(t, 1))
	add(hears(1, greeting(90)+alive+notice(6), alive), up(3, 1), down(3, 1))
	if len(h.files[last]) >= api.SegmentSize {
		t.Fatalf("the second segment has %d bytes: too many for this test", len(h.files[last]))
	}
	for capacity := -1; capacity < h.used()+50; capacity++ {
		checkSaidAt(t, capacity, calls, h)
	}
}

// checkSaidAt looks at what calls behind Open say and write on a disk with so much room.
func checkSaidAt(t *testing.T, capacity int, calls []spoken, h *history) {
	t.Helper()
	want, full := h.until(capacity)
	d := routelog.NewDisk(capacity)
	c := openedAnyhow(t, d)
	for i, s := range calls {
		wantSaid, wantErr := s.said, api.OK
		if i+1 >= full {
			wantSaid, wantErr = "", api.ErrFull
		}
		if said, e := s.call(c); said != wantSaid || e != wantErr {
			t.Errorf("room for %d: call %d = %x, %d, want %x, %d", capacity, i+1, said, e, wantSaid, wantErr)
		}
	}
	checkFiles(t, "at the end", d, want)
	checkAgrees(t, "at the end", d, c)
	if full <= h.call {
		checkFull(t, "at the end", d, c)
	}
}

// roomFor answers an empty disk with room for these records behind what Open writes, and n bytes more.
func roomFor(n int, l ...api.Record) *routelog.Disk {
	return routelog.NewDisk(len(opening(0)) + len(indexed(1, 0)) + max(len(indexed(1, 0)), len(logged(l...))+n))
}

// Whichever call meets it, with connections in all stages: they are gone, and what was written stays.
func TestFullOfConnections(t *testing.T) {
	u := announcing(t, 1, "", "08 0a")
	for _, s := range []struct {
		what string
		spoken
		written []api.Record
	}{
		{"an Up", hears(1, alive, ""), nil},
		{"an update", hears(2, alive+u+alive, ""), nil},
		{"an end", hears(2, notice(6), ""), nil},
		{"an end with a notice", hears(2, "x", ""), nil},
		{"another", hears(2, greeting(90), ""), nil},
		{"what was to be said", hears(0, greeting(90)+alive+u, ""), nil},
		{"Disconnect", disconnects(2), nil},
		{"the feed", feeds(came(5)), nil},
		{"Tick", ticks(90, ""), nil},
	} {
		for n := range len(logged(up(0, 0))) {
			d := roomFor(n, up(0, 2), up(0, 3), heardFrom(0, 3, u))
			c := opened(t, d)
			bring(t, c, 0, 0)
			bring(t, c, 1, 1)
			runs(t, c, 2, 3)
			receive(t, c, 3, u, "")
			if said, e := s.call(c); said != "" || e != api.ErrFull {
				t.Errorf("%s: said %x, %d", s.what, said, e)
			}
			checkFull(t, s.what, d, c)
			checkLog(t, s.what, d, up(0, 2), up(0, 3), heardFrom(0, 3, u))
			checkHas(t, s.what, c, 2)
			checkHas(t, s.what, c, 3, entry(t, ten, 1))
			checkHasNot(t, s.what, c, 0, 1, 4, 5)
		}
	}
}

// Tick with several that are silent: those ahead of the one that finds no room have a Down, and nobody is told.
func TestFullInTick(t *testing.T) {
	for n := range 3 {
		downs := []api.Record{down(90, 1), down(90, 2), down(90, 3)}[:n]
		log := append([]api.Record{up(0, 1), up(0, 2), up(0, 3)}, downs...)
		d := roomFor(11, log...)
		c := opened(t, d)
		bring(t, c, 0, 0)
		runs(t, c, 1, 2, 3)
		tick(t, c, 89)
		if sent, e := c.Tick(90); len(sent) != 0 || e != api.ErrFull {
			t.Errorf("Tick = %x, %d", sent, e)
		}
		checkLog(t, "Tick", d, log...)
		checkFull(t, "Tick", d, c)
	}
}

// An end that writes nothing needs no room: connections of peers that aren't up.
func TestFullIsNotMetByAnEnd(t *testing.T) {
	for stage := range running {
		d := roomFor(0, up(0, 3))
		c := opened(t, d)
		runs(t, c, 3)
		bring(t, c, 0, stage)
		receive(t, c, 0, "x", notice(noticeNoMessage))
		bring(t, c, 0, stage)
		receive(t, c, 0, notice(6), "")
		bring(t, c, 0, stage)
		disconnect(t, c, 0)
		bring(t, c, 0, stage)
		tick(t, c, 60)
		receive(t, c, 3, alive, "")
		checkSent(t, c, 90, silenced(0)...)
		checkWrites(t, "ends", c, true)
		checkErrors(t, "Sync", api.OK, c.Sync())
		checkLog(t, "ends", d, up(0, 3))
		checkConnected(t, "ends", c, 3)
	}
}

// A connection that finds no number for a segment is gone, as all are.
func TestFullOfSegmentsOfConnections(t *testing.T) {
	u := announcing(t, 1, "", "08 0a")
	one := sized(t, 388)
	d := diskOf(t, plenty, content{"s9999": one})
	c := opened(t, d)
	bring(t, c, 0, 0)
	connect(t, c, 1)
	if said, e := c.Receive(1, greeting(90)+alive+u); said != "" || e != api.ErrFull {
		t.Errorf("Receive = %x, %d", said, e)
	}
	checkFiles(t, "no number", d, content{"s9999": one + logged(up(0, 1)), "index": indexed(9999, 0)})
	checkFull(t, "no number", d, c)
	checkHas(t, "no number", c, 1)
}

// One that is opened where there is room again has no connection, and the peers are down.
func TestFullConnectionsAgain(t *testing.T) {
	d := roomFor(100, up(0, 1))
	checkErrors(t, "Append", api.OK, d.Append("other", string(make([]byte, 50))))
	c := opened(t, d)
	runs(t, c, 1)
	for e := api.OK; e == api.OK; {
		_, e = c.Receive(1, updatingHex(t, "", "", ""))
	}
	log := logOf(d)[2:]
	checkErrors(t, "Delete", api.OK, d.Delete("other"))
	checkFull(t, "full", d, c)
	c = opened(t, d)
	checkClosed(t, "opened again", c, 0, 1, 2, 3)
	checkLog(t, "opened again", d, append(log, down(0, 1))...)
	connect(t, c, 1)
}
