package routelog_test

import (
	"slices"
	"strconv"
	"testing"

	"routelog/api"
	"routelog/routelog"
)

// checkSilence looks at a connection of peer 1 whose last message came at a time, and whose hold is this, 0 being none.
func checkSilence(t *testing.T, what string, c *routelog.Collector, last, hold int) {
	t.Helper()
	if hold == 0 {
		tick(t, c, min(last+1000, api.MaxTime))
		tick(t, c, api.MaxTime)
		checkConnected(t, what, c, 1)
		return
	}
	tick(t, c, last)
	tick(t, c, last+hold-1)
	checkConnected(t, what, c, 1)
	checkSent(t, c, last+hold, silenced(1)...)
	checkClosed(t, what, c, 1)
	checkHasNot(t, what, c, 1)
	tick(t, c, last+hold)
	tick(t, c, api.MaxTime)
}

// A connection ends at its hold, in each stage; the peer's hold matters once its opening came, and not above Hold.
func TestHold(t *testing.T) {
	for _, hold := range []int{0, 3, 4, 30, api.Hold - 1, api.Hold, api.Hold + 1, 200, 65535} {
		for stage, s := range stages {
			d := routelog.NewDisk(plenty)
			c := opened(t, d)
			connect(t, c, 1)
			held := api.Hold
			if stage > 0 {
				receive(t, c, 1, greeting(hold), alive)
				held = min(held, hold)
			}
			if stage == running {
				receive(t, c, 1, alive, "")
			}
			checkSilence(t, s.name+" with "+strconv.Itoa(hold), c, 0, held)
			log := upAt(0, 1, stage)
			if held > 0 {
				log = append(log, downFrom(held, 1, stage)...)
			}
			checkLog(t, s.name+" with "+strconv.Itoa(hold), d, log...)
		}
	}
}

// Behind the hold is as well as at it.
func TestHoldBehind(t *testing.T) {
	for stage, s := range stages {
		for _, time := range []int{90, 91, 1000, api.MaxTime - 1, api.MaxTime} {
			d := routelog.NewDisk(plenty)
			c := opened(t, d)
			bring(t, c, 1, stage)
			tick(t, c, 20)
			receive(t, c, 1, greeting(90)[:30], "")
			checkSent(t, c, time, silenced(1)...)
			checkClosed(t, s.name, c, 1)
			log := append(upAt(0, 1, stage), downFrom(time, 1, stage)...)
			checkLog(t, s.name, d, log...)
			bring(t, c, 1, running)
			checkLog(t, s.name+", and again", d, append(log, up(time, 1))...)
		}
	}
}

// Each whole message begins the hold anew, whatever its type, once all of it is there; a part of one doesn't, nor does anything else.
func TestHoldBeginsAnew(t *testing.T) {
	u, nothing := announcing(t, 1, "", "08 0a"), updatingHex(t, "", "", "")
	for _, m := range []string{alive, u, nothing} {
		c := opened(t, routelog.NewDisk(plenty))
		runs(t, c, 1)
		tick(t, c, 89)
		receive(t, c, 1, m, "")
		checkSilence(t, "a message", c, 89, 90)
		for n := 1; n < len(m); n++ {
			c = opened(t, routelog.NewDisk(plenty))
			runs(t, c, 1)
			tick(t, c, 20)
			receive(t, c, 1, m[:n], "")
			checkSilence(t, "a part of one", c, 0, 90)
			c = opened(t, routelog.NewDisk(plenty))
			runs(t, c, 1)
			tick(t, c, 20)
			receive(t, c, 1, alive+m[:n], "")
			tick(t, c, 40)
			receive(t, c, 1, "", "")
			checkSilence(t, "a whole one and a part of one", c, 20, 90)
			c = opened(t, routelog.NewDisk(plenty))
			runs(t, c, 1)
			receive(t, c, 1, m[:n], "")
			tick(t, c, 20)
			receive(t, c, 1, m[n:]+alive[:5], "")
			checkSilence(t, "the other part of one", c, 20, 90)
		}
	}
}

// From stage to stage, each message begins the hold anew.
func TestHoldFromStageToStage(t *testing.T) {
	c := opened(t, routelog.NewDisk(plenty))
	tick(t, c, 1000)
	connect(t, c, 1)
	tick(t, c, 1089)
	receive(t, c, 1, greeting(30), alive)
	tick(t, c, 1118)
	receive(t, c, 1, alive, "")
	checkSilence(t, "running", c, 1118, 30)
	connect(t, c, 1)
	checkSilence(t, "waiting, again", c, api.MaxTime, 0)
	c = opened(t, routelog.NewDisk(plenty))
	connect(t, c, 1)
	tick(t, c, 80)
	receive(t, c, 1, greeting(3), alive)
	checkSilence(t, "confirming", c, 80, 3)
	c = opened(t, routelog.NewDisk(plenty))
	connect(t, c, 1)
	tick(t, c, 89)
	receive(t, c, 1, greeting(0), alive)
	checkSilence(t, "confirming without a hold", c, 89, 0)
}

// A time that is over changes nothing, and lets no time pass.
func TestHoldOfTimesThatAreOver(t *testing.T) {
	c := opened(t, routelog.NewDisk(plenty))
	tick(t, c, 500)
	runs(t, c, 1)
	for _, time := range []int{0, 1, 410, 499, 500} {
		tick(t, c, time)
		receive(t, c, 1, "", "")
	}
	tick(t, c, 589)
	tick(t, c, 500)
	receive(t, c, 1, alive, "")
	checkSilence(t, "times that are over", c, 589, 90)
}

// Times that may not be let no time pass.
func TestHoldErrors(t *testing.T) {
	c := opened(t, routelog.NewDisk(plenty))
	runs(t, c, 1, 2)
	for _, time := range []int{minInt, -90, -1, api.MaxTime + 1, maxInt} {
		if sent, e := c.Tick(time); len(sent) != 0 || e != api.ErrArg {
			t.Errorf("Tick(%d) = %x, %d", time, sent, e)
		}
		checkConnected(t, "refused", c, 1, 2)
	}
	checkSent(t, c, 90, silenced(1, 2)...)
}

// A log with times ahead: they are now, when it is opened, and a connection begins then.
func TestHoldBehindOpen(t *testing.T) {
	for _, now := range []int{0, 1, 70000, api.MaxTime - 90} {
		d := diskOf(t, plenty, content{"s0001": opening(0) + logged(up(now, 1), up(0, 4))})
		c := opened(t, d)
		bring(t, c, 1, running)
		tick(t, c, 0)
		checkSilence(t, "behind Open", c, now, 90)
		checkLog(t, "behind Open", d, up(now, 1), up(0, 4), down(now, 1), down(now, 4), up(now, 1), down(now+90, 1))
	}
}

// Several connections end in the order of the peers, whatever the order in which they began.
func TestHoldOfSeveral(t *testing.T) {
	d := routelog.NewDisk(plenty)
	c := opened(t, d)
	feed(t, c, came(5))
	bring(t, c, 3, running)
	bring(t, c, 1, running)
	bring(t, c, 2, 1)
	bring(t, c, 0, 0)
	tick(t, c, 89)
	checkSent(t, c, 90, silenced(0, 1, 2, 3)...)
	log := []api.Record{up(0, 5), up(0, 3), up(0, 1), down(90, 1), down(90, 3)}
	checkLog(t, "all", d, log...)
	checkClosed(t, "all", c, 0, 1, 2, 3)
	checkHas(t, "a fed peer", c, 5)
	runs(t, c, 2, 1, 0)
	bring(t, c, 3, 0)
	tick(t, c, 100)
	receive(t, c, 1, alive, "")
	receive(t, c, 3, greeting(0), alive)
	log = append(log, up(90, 2), up(90, 1), up(90, 0))
	checkSent(t, c, 180, silenced(0, 2)...)
	log = append(log, down(180, 0), down(180, 2))
	checkLog(t, "some", d, log...)
	checkConnected(t, "some", c, 1, 3)
	checkSent(t, c, 190, silenced(1)...)
	checkLog(t, "one more", d, append(log, down(190, 1))...)
	tick(t, c, api.MaxTime)
	checkConnected(t, "without a hold", c, 3)
}

// What Tick answers is the caller's, its spare room too.
func TestHoldAnswersNewMemory(t *testing.T) {
	c := opened(t, routelog.NewDisk(plenty))
	bring(t, c, 0, 0)
	runs(t, c, 1, 2)
	first, _ := c.Tick(90)
	runs(t, c, 1, 2)
	second, _ := c.Tick(180)
	first = first[:cap(first)]
	for i := range first {
		first[i] = api.Sent{Peer: 77, Bytes: "changed"}
	}
	if !slices.Equal(second, silenced(1, 2)) {
		t.Errorf("two answers share memory: %v", second)
	}
	bring(t, c, 3, 1)
	checkSent(t, c, 270, silenced(3)...)
}
