package routelog_test

import (
	"slices"
	"sort"
	"strconv"
	"testing"

	"routelog/api"
	"routelog/routelog"
)

// tale is what a collector is asked for, step by step; a step that is empty is a Sync.
type tale []string

// longTale answers steps that lead over several segments.
func longTale(t *testing.T) tale {
	t.Helper()
	u, w := announcing(t, 1, "", "08 0a 10 0a 01"), announcing(t, 2, "08 0a", "20 01 02 03 04")
	steps := tale{came(4), says(4, u), "", came(5) + says(5, w)}
	for range 4 {
		steps = append(steps, says(4, w)+says(5, u), gone(5)+came(5), "", says(4, u), "\x03\x00\x05\x02", "\x05"+says(5, u)+came(5)+says(5, w))
	}
	return append(steps, frame(frameAllGone, ""))
}

// tell lets a collector take steps; each answers OK, also of a disk that breaks meanwhile.
func (s tale) tell(t *testing.T, c *routelog.Collector) {
	t.Helper()
	for i, step := range s {
		tick(t, c, 10+i)
		if step == "" {
			checkErrors(t, "Sync", api.OK, c.Sync())
		} else {
			feed(t, c, step)
		}
	}
}

// emptyDisk answers a disk without a log.
func emptyDisk(*testing.T) *routelog.Disk {
	return routelog.NewDisk(plenty)
}

// tornDisk answers a disk that a crash left, with peers that are up and segments that are torn; all that it has is synced.
func tornDisk(t *testing.T) *routelog.Disk {
	t.Helper()
	d := diskOf(t, plenty, content{"s0001": sized(t, 400) + "torn", "s0002": sized(t, 340) + logged(up(7, 1), up(7, 4), told(t, 7, 4, ten, 1)) + "torn", "tmp": "left", "index": "left"})
	checkErrors(t, "Crash", api.OK, d.Crash([]int{plenty, plenty, plenty, plenty}))
	return d
}

// toldOn answers a disk on which a tale was told, and which breaks behind n calls.
func toldOn(t *testing.T, disk func(*testing.T) *routelog.Disk, n int, s tale) *routelog.Disk {
	t.Helper()
	d := disk(t)
	checkErrors(t, "Break", api.OK, d.Break(n))
	c := opened(t, d)
	s.tell(t, c)
	checkAgrees(t, "told", d, c)
	return d
}

// callsOf answers how many calls that change a disk it takes to tell a tale, with Open.
func callsOf(t *testing.T, disk func(*testing.T) *routelog.Disk, s tale) int {
	t.Helper()
	return sort.Search(1000, func(n int) bool {
		// One more than that is left, just if it can be made.
		d := toldOn(t, disk, n+1, s)
		d.Append("probe", "")
		_, e := d.Read("probe")
		return e == api.OK
	})
}

// logOf answers the records of a disk's segments.
func logOf(d *routelog.Disk) []api.Record {
	var l []api.Record
	names, _ := d.List()
	for _, name := range names {
		if name[0] == 's' {
			b, _ := d.Read(name)
			records, _ := routelog.Scan(b)
			l = append(l, records...)
		}
	}
	return l
}

// checkBegins looks whether a log begins with all of another.
func checkBegins(t *testing.T, what string, log, with []api.Record) {
	t.Helper()
	if len(log) < len(with) || !slices.Equal(log[:len(with)], with) {
		t.Errorf("%s: the log of %d records doesn't begin with those %d", what, len(log), len(with))
	}
}

// A disk that breaks at any call, also while it is opened, and a crash: the log is the beginning of what it would be,
// and it begins with what was there at the last Sync ahead of the break.
func TestBrokenAnywhere(t *testing.T) {
	steps := longTale(t)
	for _, disk := range []func(*testing.T) *routelog.Disk{tornDisk, emptyDisk} {
		whole := logOf(toldOn(t, disk, plenty, steps))
		end := callsOf(t, disk, steps)
		safe := map[int][]api.Record{0: logOf(disk(t))}
		for i, step := range steps {
			if step == "" {
				safe[callsOf(t, disk, steps[:i+1])] = logOf(toldOn(t, disk, plenty, steps[:i+1]))
			}
		}
		var synced []api.Record
		for n := range end + 1 {
			if l, there := safe[n]; there {
				synced = l
			}
			for _, keep := range [][]int{nil, {3, 1, 13, 9, 70, 12, 99, 24}, {plenty, plenty, plenty, plenty, plenty, plenty, plenty, plenty}} {
				what := "broken behind " + strconv.Itoa(n)
				d := toldOn(t, disk, n, steps)
				checkErrors(t, what, api.OK, d.Crash(keep))
				left := logOf(d)
				checkBegins(t, what, whole, left)
				checkBegins(t, what, left, synced)
				checkGoesOn(t, what, d, n%9)
			}
		}
		if end < 60 || len(safe) < 5 || len(whole) < len(synced) {
			t.Errorf("%d calls, %d times synced: too few for this test", end, len(safe))
		}
	}
}

// checkGoesOn looks at collectors that are opened on a disk behind a crash, the first one while it breaks again.
func checkGoesOn(t *testing.T, what string, d *routelog.Disk, n int) {
	t.Helper()
	log := logOf(d)
	checkErrors(t, what, api.OK, d.Break(n))
	opened(t, d)
	checkErrors(t, what, api.OK, d.Crash([]int{5, 20}))
	checkBegins(t, what+", and again", logOf(d), log)
	now := 0
	for _, r := range log {
		now = max(now, r.Time)
	}
	c := opened(t, d)
	checkHasNot(t, what, c, 0, 1, 2, 3, 4, 5)
	feed(t, c, came(5))
	checkErrors(t, what, api.OK, c.Sync())
	then := logOf(d)
	checkBegins(t, what+", and then", then, log)
	if then[len(then)-1] != up(now, 5) {
		t.Errorf("%s: the last record is %v", what, then[len(then)-1])
	}
	checkErrors(t, what, api.OK, c.Feed(came(4)), d.Crash(nil))
	checkBegins(t, what+", and in the end", logOf(d), then)
	if _, e := d.Read("tmp"); e != api.ErrFile {
		t.Errorf("%s: tmp is left", what)
	}
}

// What a collector has is at each step what its disk tells, at the time that is now and later (P20).
func TestCollectorAgrees(t *testing.T) {
	steps := longTale(t)
	for n := 0; n < 150; n += 10 {
		d := tornDisk(t)
		checkErrors(t, "Break", api.OK, d.Break(n))
		c := opened(t, d)
		for i, step := range steps {
			tale{step}.tell(t, c)
			tick(t, c, 10+i)
			checkAgrees(t, "step "+strconv.Itoa(i), d, c)
			for peer := range api.Peers {
				now, isUp, _ := routelog.Query(d, peer, 10+i)
				if got, gotUp, _ := c.Routes(peer); !slices.Equal(got, now) || gotUp != isUp {
					t.Errorf("step %d: Routes(%d) = %x, %v, and now it was %x, %v", i, peer, got, gotUp, now, isUp)
				}
			}
		}
	}
}

// Calls end, and don't panic, on a disk that another has changed meanwhile.
func TestCollectorOnADiskOfAnother(t *testing.T) {
	u := announcing(t, 1, "", "08 0a")
	for _, spoil := range []func(*routelog.Disk){
		func(d *routelog.Disk) { d.Delete("s0001"); d.Delete("index") },
		func(d *routelog.Disk) { d.Truncate("s0001", 5) },
		func(d *routelog.Disk) { d.Append("s0001", "torn") },
		func(d *routelog.Disk) { d.Append("s9999", sized(t, 500)); d.Append("tmp", "x") },
		func(d *routelog.Disk) { d.Rename("s0001", "s0000") },
		func(d *routelog.Disk) { d.Break(0) },
		func(d *routelog.Disk) { d.Break(2) },
		func(d *routelog.Disk) { d.Crash(nil) },
		func(d *routelog.Disk) { routelog.Open(d) },
	} {
		d := routelog.NewDisk(plenty)
		c := opened(t, d)
		feed(t, c, came(4)+says(4, u)+came(5))
		spoil(d)
		for range 30 {
			c.Feed(came(4) + says(4, u) + gone(5) + came(5))
			c.Feed("wrong")
			c.Tick(9)
			c.Sync()
			c.Routes(4)
			c.Writes()
		}
	}
}
