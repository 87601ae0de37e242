package routelog_test

import (
	"slices"
	"strings"
	"testing"

	"routelog/api"
	"routelog/routelog"
)

// checkReplay looks at what Replay tells of a peer: an opening, a KeepAlive and these updates.
func checkReplay(t *testing.T, what string, d *routelog.Disk, peer, time int, updates ...string) {
	t.Helper()
	want := append([]string{hello(t), alive}, updates...)
	if got, e := routelog.Replay(d, peer, time); !slices.Equal(got, want) || e != api.OK {
		t.Errorf("%s: Replay(%d, %d) = %x, %d, want %x", what, peer, time, got, e, want)
	}
}

// checkReplayError looks at a call that tells nothing.
func checkReplayError(t *testing.T, what string, d *routelog.Disk, peer, time int, want api.Errno) {
	t.Helper()
	if got, e := routelog.Replay(d, peer, time); len(got) != 0 || e != want {
		t.Errorf("%s: Replay(%d, %d) = %x, %d, want %d", what, peer, time, got, e, want)
	}
}

// checkRetold looks whether a new connection that hears what Replay tells of a peer, as much at once as this, gets its routes (P22).
func checkRetold(t *testing.T, what string, d *routelog.Disk, peer, time int, pieces func(l []string) []string) {
	t.Helper()
	l, e := routelog.Replay(d, peer, time)
	routes, isUp, _ := routelog.Query(d, peer, time)
	if e != api.OK || !isUp {
		t.Errorf("%s: Replay(%d, %d) = %d", what, peer, time, e)
		return
	}
	other := routelog.NewDisk(plenty)
	c := opened(t, other)
	to := (peer + 1) % api.Sessions
	connect(t, c, to)
	said := ""
	for _, b := range pieces(l) {
		answer, e := c.Receive(to, b)
		checkErrors(t, what, api.OK, e)
		said += answer
	}
	if said != alive {
		t.Errorf("%s: said %x", what, said)
	}
	checkHas(t, what, c, to, routes...)
	checkReplay(t, what+", told again", other, to, api.MaxTime, l[2:]...)
}

// asTold and inOnePiece are what of Replay a connection may hear at once.
func asTold(l []string) []string { return l }

func inOnePiece(l []string) []string { return []string{strings.Join(l, "")} }

func TestReplay(t *testing.T) {
	u := announcing(t, 1, "", "20 01 02 03 04 10 0a 01 08 0a")
	for peer := range api.Peers {
		d := diskWith(t, head, up(6, peer), heardFrom(7, peer, u), heardFrom(8, peer, announcing(t, 2, "08 0a", "09 0a 80 00")), down(9, peer), up(10, peer))
		checkReplayError(t, "not up yet", d, peer, 5, api.ErrDown)
		checkReplay(t, "no routes", d, peer, 6)
		checkReplay(t, "routes", d, peer, 7, announcing(t, 1, "", "20 01 02 03 04"), announcing(t, 1, "", "08 0a"), announcing(t, 1, "", "10 0a 01"))
		checkReplay(t, "others", d, peer, 8, announcing(t, 2, "", "00"), announcing(t, 1, "", "20 01 02 03 04"), announcing(t, 1, "", "10 0a 01"), announcing(t, 2, "", "09 0a 80"))
		checkReplayError(t, "down", d, peer, 9, api.ErrDown)
		checkReplay(t, "up again", d, peer, 10)
		checkReplay(t, "the last time", d, peer, api.MaxTime)
		checkReplayError(t, "another peer", d, (peer+1)%api.Peers, 8, api.ErrDown)
	}
}

func TestReplayOneRoute(t *testing.T) {
	d := diskWith(t, head, upOne, told(t, 5, 1, ten, 1))
	checkReplay(t, "one route", d, 1, 5, announcing(t, 1, "", "08 0a"))
	checkRetold(t, "one route", d, 1, 5, asTold)
}

func TestReplayErrors(t *testing.T) {
	d := diskWith(t, head, upOne, told(t, 5, 1, ten, 1))
	for _, peer := range []int{minInt, -256, -1, 0, 1, api.Peers, 256, 257, 1<<32 + 1, maxInt} {
		for _, time := range []int{minInt, -1, 0, 5, api.MaxTime, api.MaxTime + 1, 1<<32 + 5, maxInt} {
			checkReplayError(t, "nil", nil, peer, time, api.ErrNil)
			switch {
			case peer < 0 || peer >= api.Peers:
				checkReplayError(t, "no peer", d, peer, time, api.ErrPeer)
			case time < 0 || time > api.MaxTime:
				checkReplayError(t, "no time", d, peer, time, api.ErrArg)
			case peer == 0 || time < 5:
				checkReplayError(t, "not up", d, peer, time, api.ErrDown)
			}
		}
	}
	checkReplayError(t, "an empty disk", routelog.NewDisk(0), 1, 5, api.ErrDown)
	checkReplay(t, "behind the errors", d, 1, 5, announcing(t, 1, "", "08 0a"))
}

// Replay changes no file.
func TestReplayWritesNothing(t *testing.T) {
	d := diskWith(t, head, upOne, told(t, 5, 1, ten, 1))
	checkErrors(t, "Append", api.OK, d.Append("tmp", "left"), d.Append("s0001", "torn"), d.Append("index", "wrong"))
	files := filesOf(d)
	checkReplay(t, "torn", d, 1, 5, announcing(t, 1, "", "08 0a"))
	checkReplayError(t, "torn", d, 2, 5, api.ErrDown)
	checkFiles(t, "told", d, files)
}

// All attributes are told, with their flags, and in their order.
func TestReplayAttributes(t *testing.T) {
	attrs := unhex(t, "c0 00 00 01 09"+canonical+"80 04 00 04 00 00 00 09 40 06 00 00 c0 07 00 08 01 02 03 04 05 06 07 08 c0 08 00 04 01 02 03 04 e0 63 00 02 01 02")
	d := diskWith(t, head, upOne, api.Record{Time: 5, Kind: api.Route, Peer: 1, Body: routeBody(ten, attrs)})
	update := updatingHex(t, "", "c0 00 01 09"+needed+"80 04 04 00 00 00 09 40 06 00 c0 07 08 01 02 03 04 05 06 07 08 c0 08 04 01 02 03 04 e0 63 02 01 02", "08 0a")
	checkReplay(t, "attributes", d, 1, 5, update)
	checkRetold(t, "attributes", d, 1, 5, asTold)
}

// A route whose update would be too long: nothing is told, wherever it stands.
func TestReplayLong(t *testing.T) {
	room := api.MaxMessage - len(updatingHex(t, "", needed+"c0 63 00", "08 0a"))
	long := func(p api.Prefix, n int) api.Record {
		attrs := unhex(t, canonical) + "\xc0\x63" + twoBytes(n) + strings.Repeat("v", n)
		return api.Record{Time: 6, Kind: api.Route, Peer: 1, Body: routeBody(p, attrs)}
	}
	longest := updating("", unhex(t, needed)+"\xc0\x63"+string([]byte{byte(room)})+strings.Repeat("v", room), "\x08\x0a")
	d := diskWith(t, head, upOne, long(ten, room))
	if len(longest) != api.MaxMessage {
		t.Errorf("the longest update has %d bytes", len(longest))
	}
	checkReplay(t, "the longest", d, 1, 6, longest)
	checkRetold(t, "the longest", d, 1, 6, asTold)
	for _, n := range []int{room + 1, 200, 255, 256, 60000} {
		d = diskWith(t, head, upOne, long(ten, n))
		checkReplay(t, "before", d, 1, 5)
		checkReplayError(t, "too long", d, 1, 6, api.ErrLong)
		checkReplayError(t, "another peer", d, 2, 6, api.ErrDown)
	}
	d = diskWith(t, head, upOne, told(t, 6, 1, all, 1), told(t, 6, 1, single, 1), long(tenOne, room))
	checkReplayError(t, "the last one, by its prefix", d, 1, 6, api.ErrLong)
	d = diskWith(t, head, upOne, told(t, 6, 1, single, 1), long(all, room+2))
	checkReplayError(t, "the first one", d, 1, 6, api.ErrLong)
	d = diskWith(t, head, upOne, long(all, room+1))
	if l, e := routelog.Replay(d, 1, 6); len(l) != 3 || e != api.OK {
		t.Errorf("a shorter prefix leaves room: %d messages, %d", len(l), e)
	}
}

// As many routes as a peer may have, and, of a log that no collector wrote, more.
func TestReplayMany(t *testing.T) {
	for _, n := range []int{api.MaxRoutes, api.MaxRoutes + 1, 40} {
		records := []api.Record{head, upOne}
		var updates []string
		for i := range n {
			p := api.Prefix{Addr: (n - i) << 24, Len: 8}
			records = append(records, told(t, 5, 1, p, i))
			updates = append(updates, announcingAt(t, n-1-i, i+1))
		}
		d := diskWith(t, records...)
		checkReplay(t, "many", d, 1, 5, updates...)
		if n == api.MaxRoutes {
			checkRetold(t, "many", d, 1, 5, asTold)
			checkRetold(t, "many, in one piece", d, 1, 5, inOnePiece)
		}
	}
}

// announcingAt answers an update with the attributes of withHop that announces a prefix of 8 bits.
func announcingAt(t *testing.T, n, first int) string {
	t.Helper()
	_, attrs := withHop(t, n)
	return updating("", attrs, string([]byte{8, byte(first)}))
}

// An answer's list is the caller's, its spare room too.
func TestReplayAnswersNewMemory(t *testing.T) {
	d := diskWith(t, head, upOne, told(t, 5, 1, ten, 1), told(t, 5, 1, tenOne, 1), told(t, 5, 1, single, 1))
	first, _ := routelog.Replay(d, 1, 5)
	second, _ := routelog.Replay(d, 1, 5)
	want := slices.Clone(second)
	first = first[:cap(first)]
	for i := range first {
		first[i] = "changed"
	}
	if !slices.Equal(second, want) {
		t.Errorf("two answers share memory: %x", second)
	}
	checkReplay(t, "an answer was changed", d, 1, 5, want[2:]...)
}

// What is told of a disk that a collector wrote, at any time, over several segments, gives the same routes (P22).
func TestReplayRetold(t *testing.T) {
	d := tornDisk(t)
	c := opened(t, d)
	longTale(t).tell(t, c)
	n := 0
	for time := range 100 {
		for peer := range api.Peers {
			if _, isUp, _ := routelog.Query(d, peer, time); isUp {
				n++
				checkRetold(t, "a tale", d, peer, time, asTold)
				checkRetold(t, "a tale, in one piece", d, peer, time, inOnePiece)
			} else {
				checkReplayError(t, "a tale", d, peer, time, api.ErrDown)
			}
		}
	}
	if n < 100 {
		t.Errorf("only %d times that a peer was up: too few for this test", n)
	}
}
