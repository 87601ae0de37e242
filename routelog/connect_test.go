package routelog_test

import (
	"testing"

	"routelog/api"
	"routelog/routelog"
)

// noSessions are no peers with sessions: fed ones, and such as there aren't.
var noSessions = []int{minInt, -256, -1, 4, 5, 6, 7, 255, 256, 257, 1 << 32, 1<<32 + 1, maxInt}

// A connection begins with an opening, and with nothing else.
func TestConnect(t *testing.T) {
	d := routelog.NewDisk(plenty)
	c := opened(t, d)
	for peer := range api.Sessions {
		checkClosed(t, "before", c, peer)
		connect(t, c, peer)
		checkConnected(t, "connected", c, peer)
	}
	checkLog(t, "connected", d)
	checkHasNot(t, "connected", c, 0, 1, 2, 3, 4, 5)
	checkConnected(t, "all", c, 0, 1, 2, 3)
}

func TestConnectErrors(t *testing.T) {
	d := routelog.NewDisk(plenty)
	c := opened(t, d)
	bring(t, c, 0, 0)
	bring(t, c, 1, 1)
	bring(t, c, 2, 2)
	log := up(0, 2)
	for _, peer := range noSessions {
		for _, b := range []string{"", "wrong", alive, greeting(90), notice(6)} {
			said, e1 := c.Connect(peer)
			answer, e2 := c.Receive(peer, b)
			checkErrors(t, "no peer with sessions", api.ErrPeer, e1, e2, c.Disconnect(peer))
			if said != "" || answer != "" {
				t.Errorf("peer %d: Connect = %x, Receive(%x) = %x", peer, said, b, answer)
			}
		}
	}
	checkClosed(t, "refused", c, 3)
	checkConnected(t, "refused", c, 0, 1, 2)
	checkLog(t, "refused", d, log)
	receive(t, c, 0, greeting(90), alive)
	receive(t, c, 1, alive, "")
	receive(t, c, 2, alive, "")
	checkLog(t, "they go on", d, log, up(0, 1))
}

// Where there is a connection, Connect changes nothing about it, nor about what it heard.
func TestConnectTwice(t *testing.T) {
	for stage := range stages {
		for _, b := range []string{greeting(30), alive, notice(6)} {
			for n := range b {
				twice, once := opened(t, routelog.NewDisk(plenty)), opened(t, routelog.NewDisk(plenty))
				bring(t, twice, 1, stage)
				bring(t, once, 1, stage)
				receive(t, twice, 1, b[:n], "")
				receive(t, once, 1, b[:n], "")
				tick(t, twice, 50)
				tick(t, once, 50)
				checkConnected(t, stages[stage].name, twice, 1)
				want, _ := once.Receive(1, b[n:])
				receive(t, twice, 1, b[n:], want)
				wantSent, _ := once.Tick(90)
				checkSent(t, twice, 90, wantSent...)
			}
		}
	}
}

func TestDisconnect(t *testing.T) {
	for peer := range api.Sessions {
		for stage, s := range stages {
			d := routelog.NewDisk(plenty)
			c := opened(t, d)
			bring(t, c, peer, stage)
			log := upAt(0, peer, stage)
			checkLog(t, s.name, d, log...)
			tick(t, c, 7)
			disconnect(t, c, peer)
			log = append(log, downFrom(7, peer, stage)...)
			checkLog(t, s.name+", disconnected", d, log...)
			checkHasNot(t, s.name+", disconnected", c, 0, 1, 2, 3, 4, 5)
			checkClosed(t, s.name+", disconnected", c, 0, 1, 2, 3)
			checkLog(t, s.name+", disconnected again", d, log...)
			bring(t, c, peer, running)
			checkLog(t, s.name+", connected again", d, append(log, up(7, peer))...)
			checkHas(t, s.name+", connected again", c, peer)
		}
	}
}

// A new connection is waiting, with Hold, and has neither the old one's bytes nor its routes.
func TestConnectBehindAnEnd(t *testing.T) {
	u := announcing(t, 1, "", "08 0a")
	for stage, s := range stages {
		for _, left := range []string{"", "\xff", greeting(90)[:30], u[:len(u)-1], alive[:18]} {
			d := routelog.NewDisk(plenty)
			c := opened(t, d)
			connect(t, c, 1)
			receive(t, c, 1, greeting(3)+alive+u, alive)
			disconnect(t, c, 1)
			bring(t, c, 1, stage)
			receive(t, c, 1, left, "")
			tick(t, c, 80)
			disconnect(t, c, 1)
			connect(t, c, 1)
			checkHasNot(t, s.name, c, 1)
			tick(t, c, 169)
			receive(t, c, 1, greeting(0)+alive, alive)
			checkHas(t, s.name, c, 1)
			log := []api.Record{up(0, 1), heardFrom(0, 1, u), down(0, 1)}
			log = append(append(log, upAt(0, 1, stage)...), downFrom(80, 1, stage)...)
			checkLog(t, s.name, d, append(log, up(169, 1))...)
		}
	}
}

// What one connection hears is nothing to another, nor to the feed.
func TestConnectionsApart(t *testing.T) {
	u, w := announcing(t, 1, "", "08 0a"), announcing(t, 2, "", "10 0a 01")
	d := routelog.NewDisk(plenty)
	c := opened(t, d)
	runs(t, c, 3, 0)
	feed(t, c, came(4)+says(4, w)[:9])
	receive(t, c, 3, u[:21], "")
	receive(t, c, 0, w[:33], "")
	bring(t, c, 1, 1)
	receive(t, c, 3, u[21:], "")
	feed(t, c, says(4, w)[9:])
	receive(t, c, 0, w[33:]+alive[:1], "")
	receive(t, c, 1, "x", notice(noticeNoMessage))
	checkClosed(t, "one has ended", c, 1, 2)
	checkConnected(t, "one has ended", c, 0, 3)
	log := []api.Record{up(0, 3), up(0, 0), up(0, 4), heardFrom(0, 3, u), heardFrom(0, 4, w), heardFrom(0, 0, w)}
	checkLog(t, "one has ended", d, log...)
	disconnect(t, c, 3)
	checkErrors(t, "wrong", api.ErrFeed, c.Feed("wrong"))
	log = append(log, down(0, 3), down(0, 4))
	checkLog(t, "another, and the feed", d, log...)
	receive(t, c, 0, alive[1:]+u, "")
	checkLog(t, "the last one", d, append(log, heardFrom(0, 0, u))...)
	checkHas(t, "the last one", c, 0, entry(t, ten, 1), entry(t, tenOne, 2))
	checkHasNot(t, "the last one", c, 1, 2, 3, 4, 5)
}

// Collectors on other disks have connections of their own; one that is opened has none.
func TestConnectionsOfOthers(t *testing.T) {
	d, other := routelog.NewDisk(plenty), routelog.NewDisk(plenty)
	c, second := opened(t, d), opened(t, other)
	runs(t, c, 1, 2)
	tick(t, c, 9)
	checkClosed(t, "the other", second, 0, 1, 2, 3)
	runs(t, second, 2)
	disconnect(t, c, 2)
	checkConnected(t, "the other", second, 2)
	checkHas(t, "the other", second, 2)
	checkLog(t, "the one", d, up(0, 1), up(0, 2), down(9, 2))
	checkLog(t, "the other", other, up(0, 2))
	c = opened(t, d)
	checkClosed(t, "opened", c, 0, 1, 2, 3)
	runs(t, c, 1)
	checkLog(t, "opened", d, up(0, 1), up(0, 2), down(9, 2), down(9, 1), up(9, 1))
}
