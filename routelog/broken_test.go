package routelog_test

import (
	"math/rand"
	"slices"
	"sort"
	"strconv"
	"testing"

	"routelog/api"
	"routelog/routelog"
)

// step is something that a collector is asked for, which answers OK, also of a disk that breaks meanwhile.
type step struct {
	call  func(*routelog.Collector) api.Errno
	syncs bool
}

// tale is steps, one behind the other.
type tale []step

func syncing() step {
	return step{(*routelog.Collector).Sync, true}
}

func feeding(b string) step {
	return step{func(c *routelog.Collector) api.Errno { return c.Feed(b) }, false}
}

func connecting(peer int) step {
	return step{func(c *routelog.Collector) api.Errno {
		_, e := c.Connect(peer)
		return e
	}, false}
}

func hearing(peer int, b string) step {
	return step{func(c *routelog.Collector) api.Errno {
		_, e := c.Receive(peer, b)
		return e
	}, false}
}

func disconnecting(peer int) step {
	return step{func(c *routelog.Collector) api.Errno { return c.Disconnect(peer) }, false}
}

// feedTale answers steps of the feed that lead over several segments.
func feedTale(t *testing.T) tale {
	t.Helper()
	u, w := announcing(t, 1, "", "08 0a 10 0a 01"), announcing(t, 2, "08 0a", "20 01 02 03 04")
	steps := tale{feeding(came(4)), feeding(says(4, u)), syncing(), feeding(came(5) + says(5, w))}
	for range 4 {
		steps = append(steps, feeding(says(4, w)+says(5, u)), feeding(gone(5)+came(5)), syncing(), feeding(says(4, u)), feeding("\x03\x00\x05\x02"), feeding("\x05"+says(5, u)+came(5)+says(5, w)))
	}
	return append(steps, feeding(frame(frameAllGone, "")))
}

// sessionTale answers steps of connections, with some of the feed, that lead over several segments.
// Of those of peer 1 some end as it is silent for too long.
func sessionTale(t *testing.T) tale {
	t.Helper()
	u, w := announcing(t, 1, "", "08 0a 10 0a 01"), announcing(t, 2, "08 0a", "20 01 02 03 04")
	steps := tale{connecting(0), hearing(0, greeting(90)+alive), feeding(came(5))}
	for range 3 {
		steps = append(steps,
			connecting(1), hearing(1, greeting(3)+alive+u), hearing(0, w+u), syncing(), hearing(0, u[:33]),
			connecting(1), hearing(1, greeting(0)), hearing(0, u[33:]+alive), hearing(1, alive+u+u[:30]), feeding(says(5, w)), hearing(1, u[30:]+"wrong"),
			connecting(3), hearing(3, greeting(90)+alive+w), syncing(), disconnecting(3), connecting(3), hearing(3, greeting(9)+alive+u+notice(6)),
		)
	}
	return append(steps, connecting(2), hearing(2, greeting(30)+alive+w), hearing(0, announcingBytes(t, "", routesFrom(0, 13))))
}

// longTale answers both, one behind the other.
func longTale(t *testing.T) tale {
	t.Helper()
	return slices.Concat(feedTale(t), sessionTale(t))
}

// tell lets a collector take steps, each a while behind the one ahead of it.
func (s tale) tell(t *testing.T, c *routelog.Collector) {
	t.Helper()
	for i, step := range s {
		_, e := c.Tick(10 + i)
		checkErrors(t, "step "+strconv.Itoa(i), api.OK, e, step.call(c))
	}
}

// emptyDisk answers a disk without a log.
func emptyDisk(*testing.T) *routelog.Disk {
	return routelog.NewDisk(plenty)
}

// tornDisk answers a disk that a crash left, with peers that are up and segments that are torn; all that it has is synced.
func tornDisk(t *testing.T) *routelog.Disk {
	t.Helper()
	d := diskOf(t, plenty, content{"s0001": sized(t, 400) + "torn", "s0002": sized(t, 340) + logged(up(7, 1), up(7, 4), told(t, 7, 4, ten, 1)) + "torn", "tmp": "left", "index": "left"})
	checkErrors(t, "Crash", api.OK, d.Crash([]int{plenty, plenty, plenty, plenty}))
	return d
}

// toldOn answers a disk on which a tale was told, and which breaks behind n calls.
func toldOn(t *testing.T, disk func(*testing.T) *routelog.Disk, n int, s tale) *routelog.Disk {
	t.Helper()
	d := disk(t)
	checkErrors(t, "Break", api.OK, d.Break(n))
	c := opened(t, d)
	s.tell(t, c)
	checkAgrees(t, "told", d, c)
	return d
}

// callsOf answers how many calls that change a disk it takes to tell a tale, with Open.
func callsOf(t *testing.T, disk func(*testing.T) *routelog.Disk, s tale) int {
	t.Helper()
	return sort.Search(1000, func(n int) bool {
		// One more than that is left, just if it can be made.
		d := toldOn(t, disk, n+1, s)
		d.Append("probe", "")
		_, e := d.Read("probe")
		return e == api.OK
	})
}

// logOf answers the records of a disk's segments.
func logOf(d *routelog.Disk) []api.Record {
	var l []api.Record
	names, _ := d.List()
	for _, name := range names {
		if name[0] == 's' {
			b, _ := d.Read(name)
			records, _ := routelog.Scan(b)
			l = append(l, records...)
		}
	}
	return l
}

// checkBegins looks whether a log begins with all of another.
func checkBegins(t *testing.T, what string, log, with []api.Record) {
	t.Helper()
	if len(log) < len(with) || !slices.Equal(log[:len(with)], with) {
		t.Errorf("%s: the log of %d records doesn't begin with those %d", what, len(log), len(with))
	}
}

// A disk that breaks at any call, also while it is opened, and a crash: the log is the beginning of what it would be,
// and it begins with what was there at the last Sync ahead of the break.
func TestBrokenAnywhere(t *testing.T) {
	for _, steps := range []tale{feedTale(t), sessionTale(t)} {
		for _, disk := range []func(*testing.T) *routelog.Disk{tornDisk, emptyDisk} {
			checkBrokenAnywhere(t, disk, steps)
		}
	}
}

func checkBrokenAnywhere(t *testing.T, disk func(*testing.T) *routelog.Disk, steps tale) {
	t.Helper()
	whole := logOf(toldOn(t, disk, plenty, steps))
	end := callsOf(t, disk, steps)
	safe := map[int][]api.Record{0: logOf(disk(t))}
	for i, step := range steps {
		if step.syncs {
			safe[callsOf(t, disk, steps[:i+1])] = logOf(toldOn(t, disk, plenty, steps[:i+1]))
		}
	}
	var synced []api.Record
	for n := range end + 1 {
		if l, there := safe[n]; there {
			synced = l
		}
		for _, keep := range [][]int{nil, slices.Repeat([]int{3, 1, 13, 9, 70, 12, 99, 24}, 3), slices.Repeat([]int{plenty}, 30)} {
			what := "broken behind " + strconv.Itoa(n)
			d := toldOn(t, disk, n, steps)
			checkErrors(t, what, api.OK, d.Crash(keep))
			left := logOf(d)
			checkBegins(t, what, whole, left)
			checkBegins(t, what, left, synced)
			checkGoesOn(t, what, d, n%9)
		}
	}
	if end < 60 || len(safe) < 5 || len(whole) < len(synced) {
		t.Errorf("%d calls, %d times synced: too few for this test", end, len(safe))
	}
}

// checkGoesOn looks at collectors that are opened on a disk behind a crash, the first one while it breaks again.
func checkGoesOn(t *testing.T, what string, d *routelog.Disk, n int) {
	t.Helper()
	log := logOf(d)
	checkErrors(t, what, api.OK, d.Break(n))
	opened(t, d)
	checkErrors(t, what, api.OK, d.Crash([]int{5, 20}))
	checkBegins(t, what+", and again", logOf(d), log)
	now := 0
	for _, r := range log {
		now = max(now, r.Time)
	}
	c := opened(t, d)
	checkHasNot(t, what, c, 0, 1, 2, 3, 4, 5)
	feed(t, c, came(5))
	checkErrors(t, what, api.OK, c.Sync())
	then := logOf(d)
	checkBegins(t, what+", and then", then, log)
	if then[len(then)-1] != up(now, 5) {
		t.Errorf("%s: the last record is %v", what, then[len(then)-1])
	}
	checkErrors(t, what, api.OK, c.Feed(came(4)), d.Crash(nil))
	checkBegins(t, what+", and in the end", logOf(d), then)
	if _, e := d.Read("tmp"); e != api.ErrFile {
		t.Errorf("%s: tmp is left", what)
	}
}

// anyTale answers steps in any order, some of which are refused.
func anyTale(r *rand.Rand, messages []string) tale {
	var steps tale
	for range 20 + r.Intn(40) {
		peer := r.Intn(api.Peers)
		m := messages[r.Intn(len(messages))]
		switch n := r.Intn(20); {
		case n == 0:
			steps = append(steps, syncing())
		case peer >= api.Sessions && n < 4:
			steps = append(steps, feeding(came(peer)))
		case peer >= api.Sessions:
			steps = append(steps, feeding(says(peer, m)))
		case n == 1:
			steps = append(steps, disconnecting(peer))
		case n < 5:
			steps = append(steps, connecting(peer), hearing(peer, greeting(r.Intn(40))+alive+m))
		default:
			steps = append(steps, hearing(peer, m))
		}
	}
	return steps
}

// brokenOff answers a disk with the files of another, on which steps were told that may be refused, and which breaks behind n calls.
func (s tale) brokenOff(t *testing.T, from *routelog.Disk, n, time int) *routelog.Disk {
	t.Helper()
	files := filesOf(from)
	d := diskOf(t, plenty, files)
	checkErrors(t, "Crash", api.OK, d.Crash(slices.Repeat([]int{plenty}, len(files))), d.Break(n))
	c := openedAnyhow(t, d)
	for i, step := range s {
		c.Tick(time + 2*i)
		step.call(c)
	}
	checkAgrees(t, "any tale", d, c)
	return d
}

// synced answers what of the log must outlast a crash behind brokenOff.
func (s tale) synced(t *testing.T, from *routelog.Disk, n, time int) []api.Record {
	t.Helper()
	for i := len(s) - 1; i >= 0; i-- {
		if s[i].syncs {
			d := s[:i+1].brokenOff(t, from, n, time)
			d.Append("probe", "x")
			if _, e := d.Read("probe"); e == api.OK {
				return logOf(d)
			}
		}
	}
	return logOf(from)
}

// Any tales, each broken off somewhere by a crash, each opened behind the one ahead of it (P21).
func TestBrokenAgainAndAgain(t *testing.T) {
	messages := someMessages(t)
	r := rand.New(rand.NewSource(1))
	for range 60 {
		d := routelog.NewDisk(plenty)
		for round := range 5 {
			steps, n, time := anyTale(r, messages), r.Intn(150), 100*round
			whole, synced := logOf(steps.brokenOff(t, d, plenty, time)), steps.synced(t, d, n, time)
			d = steps.brokenOff(t, d, n, time)
			checkErrors(t, "Crash", api.OK, d.Crash(r.Perm(200)[:12]))
			checkBegins(t, "any tale", whole, logOf(d))
			checkBegins(t, "what was synced", logOf(d), synced)
		}
	}
}

// What a collector has is at each step what its disk tells, at the time that is now and later (P20).
func TestCollectorAgrees(t *testing.T) {
	for n := 0; n < 400; n += 20 {
		d := tornDisk(t)
		checkErrors(t, "Break", api.OK, d.Break(n))
		c := opened(t, d)
		for i, step := range longTale(t) {
			_, e := c.Tick(10 + i)
			checkErrors(t, "step "+strconv.Itoa(i), api.OK, e, step.call(c))
			checkAgrees(t, "step "+strconv.Itoa(i), d, c)
			for peer := range api.Peers {
				now, isUp, _ := routelog.Query(d, peer, 10+i)
				if got, gotUp, _ := c.Routes(peer); !slices.Equal(got, now) || gotUp != isUp {
					t.Errorf("step %d: Routes(%d) = %x, %v, and now it was %x, %v", i, peer, got, gotUp, now, isUp)
				}
			}
		}
	}
}

// Calls end, and don't panic, on a disk that another has changed meanwhile.
func TestCollectorOnADiskOfAnother(t *testing.T) {
	u := announcing(t, 1, "", "08 0a")
	for _, spoil := range []func(*routelog.Disk){
		func(d *routelog.Disk) { d.Delete("s0001"); d.Delete("index") },
		func(d *routelog.Disk) { d.Truncate("s0001", 5) },
		func(d *routelog.Disk) { d.Append("s0001", "torn") },
		func(d *routelog.Disk) { d.Append("s9999", sized(t, 500)); d.Append("tmp", "x") },
		func(d *routelog.Disk) { d.Rename("s0001", "s0000") },
		func(d *routelog.Disk) { d.Break(0) },
		func(d *routelog.Disk) { d.Break(2) },
		func(d *routelog.Disk) { d.Crash(nil) },
		func(d *routelog.Disk) { routelog.Open(d) },
	} {
		d := routelog.NewDisk(plenty)
		c := opened(t, d)
		feed(t, c, came(4)+says(4, u)+came(5))
		runs(t, c, 0, 1)
		bring(t, c, 2, 0)
		spoil(d)
		for i := range 30 {
			c.Receive(0, u+u+alive)
			c.Receive(1, u+u[:i]+notice(i))
			c.Receive(2, greeting(i)+alive+u+alive+"wrong")
			c.Disconnect(i % 7)
			c.Connect(i % 5)
			c.Tick(i * 7)
			routelog.Replay(d, i%7, i)
			c.Feed(came(4) + says(4, u) + gone(5) + came(5))
			c.Feed("wrong")
			c.Tick(9)
			c.Sync()
			c.Routes(4)
			c.Writes()
		}
	}
}
