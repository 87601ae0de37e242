package routelog_test

import (
	"slices"
	"testing"

	"routelog/api"
	"routelog/routelog"
)

func TestTick(t *testing.T) {
	d := routelog.NewDisk(plenty)
	c := opened(t, d)
	var log []api.Record
	for _, s := range []struct{ tick, now int }{{0, 0}, {1, 1}, {1, 1}, {0, 1}, {256, 256}, {255, 256}, {70000, 70000}, {api.MaxTime - 1, api.MaxTime - 1}, {9, api.MaxTime - 1}, {api.MaxTime, api.MaxTime}, {0, api.MaxTime}} {
		tick(t, c, s.tick)
		feed(t, c, came(4))
		log = append(log, up(s.now, 4))
		checkLog(t, "ticks", d, log...)
		checkQuery(t, "ticks", d, 4, s.now)
	}
}

func TestTickErrors(t *testing.T) {
	d := routelog.NewDisk(plenty)
	c := opened(t, d)
	tick(t, c, 5)
	for _, n := range []int{minInt, -api.MaxTime, -1, api.MaxTime + 1, 1<<32 + 9, maxInt} {
		if l, e := c.Tick(n); len(l) != 0 || e != api.ErrArg {
			t.Errorf("Tick(%d) = %v, %d", n, l, e)
		}
	}
	feed(t, c, came(4))
	checkLog(t, "refused", d, up(5, 4))
}

// Time passes without a change of the disk.
func TestTickWritesNothing(t *testing.T) {
	d := diskOf(t, plenty, content{"s0001": sized(t, 500)})
	c := opened(t, d)
	files := filesOf(d)
	for n := range 1000 {
		tick(t, c, n)
	}
	checkFiles(t, "time has passed", d, files)
	checkErrors(t, "Sync", api.OK, c.Sync(), c.Sync())
	checkFiles(t, "synced", d, files)
}

func TestCollectorSync(t *testing.T) {
	d := diskOf(t, plenty, content{"s0003": sized(t, 385)})
	c := opened(t, d)
	want := filesOf(d)
	feed(t, c, came(4))
	checkErrors(t, "Sync", api.OK, c.Sync())
	want["s0003"] += logged(up(0, 4))
	feed(t, c, came(5))
	longer := filesOf(d)
	checkErrors(t, "Crash", api.OK, d.Crash([]int{0, 5}))
	want["s0003"] += longer["s0003"][len(want["s0003"]):][:5]
	checkFiles(t, "what was synced, and 5 bytes", d, want)
	d = diskOf(t, plenty, content{"s0003": sized(t, 400)})
	c = opened(t, d)
	feed(t, c, came(4))
	checkErrors(t, "Sync", api.OK, c.Sync())
	feed(t, c, came(5))
	checkErrors(t, "Crash", api.OK, d.Crash(nil))
	checkFiles(t, "in a second segment", d, content{"s0003": sized(t, 400), "s0004": opening(0) + logged(up(0, 4)), "index": indexed(3, 0, 4, 0)})
}

func TestCollectorRoutesErrors(t *testing.T) {
	c := opened(t, routelog.NewDisk(plenty))
	feed(t, c, came(4), came(5), says(4, announcing(t, 1, "", "08 0a")))
	for _, peer := range []int{minInt, -256, -1, api.Peers, 255, 256, 260, 1<<32 + 4, maxInt} {
		if l, isUp, e := c.Routes(peer); len(l) != 0 || isUp || e != api.ErrPeer {
			t.Errorf("Routes(%d) = %v, %v, %d", peer, l, isUp, e)
		}
	}
	checkHasNot(t, "peers with sessions", c, 0, 1, 2, 3)
	checkHas(t, "a fed peer", c, 4, entry(t, ten, 1))
	checkHas(t, "a fed peer without routes", c, 5)
}

func TestCollectorRoutesOrder(t *testing.T) {
	c := opened(t, routelog.NewDisk(plenty))
	feed(t, c, came(4), says(4, announcing(t, 1, "", "20 01 02 03 04 10 0a 00 09 0a 80 08 0a 01 80 00 10 0a 01 02 80")))
	for range 20 {
		checkHas(t, "in order", c, 4, entry(t, all, 1), entry(t, single, 1), entry(t, ten, 1), entry(t, api.Prefix{Addr: 10 << 24, Len: 16}, 1), entry(t, tenOne, 1), entry(t, oddBits, 1),
			entry(t, api.Prefix{Addr: 1 << 31, Len: 1}, 1), entry(t, api.Prefix{Addr: 1 << 31, Len: 2}, 1))
	}
}

// An answer's list is the caller's, its spare room too.
func TestCollectorAnswersNewMemory(t *testing.T) {
	c := opened(t, routelog.NewDisk(plenty))
	feed(t, c, came(4), says(4, announcing(t, 1, "", "08 0a 10 0a 01 20 01 02 03 04")))
	want := []api.Entry{entry(t, single, 1), entry(t, ten, 1), entry(t, tenOne, 1)}
	first, _, _ := c.Routes(4)
	second, _, _ := c.Routes(4)
	first = first[:cap(first)]
	for i := range first {
		first[i] = api.Entry{Addr: 77}
	}
	if !slices.Equal(second, want) {
		t.Errorf("two answers share memory: %x", second)
	}
	checkHas(t, "an answer was changed", c, 4, want...)
	feed(t, c, gone(4))
	if !slices.Equal(second, want) {
		t.Errorf("what was told has become %x", second)
	}
}

func TestCollectorNil(t *testing.T) {
	var c *routelog.Collector
	for _, n := range []int{minInt, -1, 0, 4, api.Peers, api.MaxTime, api.MaxTime + 1, maxInt} {
		opening, e1 := c.Connect(n)
		answer, e2 := c.Receive(n, "any")
		sent, e3 := c.Tick(n)
		routes, isUp, e4 := c.Routes(n)
		writes, e5 := c.Writes()
		checkErrors(t, "nil", api.ErrNil, e1, e2, e3, e4, e5, c.Disconnect(n), c.Feed(""), c.Feed(came(4)), c.Feed("wrong"), c.Sync())
		if opening != "" || answer != "" || len(sent) != 0 || len(routes) != 0 || isUp || writes {
			t.Errorf("nil answers %q, %q, %v, %v, %v, %v", opening, answer, sent, routes, isUp, writes)
		}
	}
}
