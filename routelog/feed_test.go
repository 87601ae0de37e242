package routelog_test

import (
	"strings"
	"testing"

	"routelog/api"
	"routelog/routelog"
)

// checkLog looks at the one segment of a disk, behind what an empty disk's begins with.
func checkLog(t *testing.T, what string, d *routelog.Disk, want ...api.Record) {
	t.Helper()
	checkFiles(t, what, d, content{"s0001": opening(0) + logged(want...), "index": indexed(1, 0)})
}

// routesFrom answers the bytes of n prefixes of 24 bits, from the first on.
func routesFrom(first, n int) string {
	s := ""
	for i := first; i < first+n; i++ {
		s += string([]byte{24, 10, byte(i >> 8), byte(i)})
	}
	return s
}

// announcingBytes is announcing of bytes.
func announcingBytes(t *testing.T, withdrawn, announced string) string {
	t.Helper()
	return updating(withdrawn, unhex(t, needed), announced)
}

// frameLength answers the beginning of a frame whose length is told to be n.
func frameLength(n int) string {
	return "\x03" + twoBytes(n)
}

func TestFeedOfOnePeer(t *testing.T) {
	for _, peer := range []int{4, 5} {
		d := routelog.NewDisk(plenty)
		c := opened(t, d)
		u, w := announcing(t, 1, "", "10 0a 01 08 0a"), announcing(t, 2, "08 0a", "20 01 02 03 04")
		feed(t, c, says(peer, u), gone(peer))
		checkLog(t, "not up", d)
		feed(t, c, came(peer))
		log := []api.Record{up(0, peer)}
		checkLog(t, "up", d, log...)
		checkHas(t, "up", c, peer)
		feed(t, c, says(peer, u))
		log = append(log, heardFrom(0, peer, u))
		checkLog(t, "an update", d, log...)
		checkHas(t, "an update", c, peer, entry(t, ten, 1), entry(t, tenOne, 1))
		tick(t, c, 5)
		feed(t, c, says(peer, w))
		log = append(log, heardFrom(5, peer, w))
		checkLog(t, "another", d, log...)
		checkHas(t, "another", c, peer, entry(t, single, 2), entry(t, tenOne, 1))
		feed(t, c, came(peer))
		log = append(log, up(5, peer))
		checkLog(t, "up while it is up", d, log...)
		checkHas(t, "up while it is up", c, peer)
		feed(t, c, gone(peer), gone(peer))
		log = append(log, down(5, peer))
		checkLog(t, "down", d, log...)
		checkHasNot(t, "down", c, 0, 1, 2, 3, 4, 5)
		checkNotUp(t, "down", d, 5, peer)
		checkQuery(t, "before", d, peer, 4, entry(t, ten, 1), entry(t, tenOne, 1))
	}
}

// What asks for nothing: a peer that isn't fed, bytes too many or too few, and types that there aren't.
func TestFeedOfNothing(t *testing.T) {
	d := routelog.NewDisk(plenty)
	c := opened(t, d)
	u := announcing(t, 1, "", "08 0a")
	feed(t, c, came(4), says(4, u))
	log := []api.Record{up(0, 4), heardFrom(0, 4, u)}
	for kind := range 256 {
		for _, body := range []string{"", "\x04", "\x05", "\x04\x04", "\x05x", "\x04" + u, "\x05" + u, strings.Repeat("\x04", 216)} {
			switch {
			case kind == frameAllGone, kind == frameUpdate && body != "" && body[0] == 4, (kind == frameGone || kind == frameCame) && len(body) == 1:
			default:
				feed(t, c, frame(kind, body))
			}
		}
	}
	checkLog(t, "nothing is asked for", d, log...)
	for peer := range 256 {
		if peer != 4 && peer != 5 {
			feed(t, c, says(peer, u), says(peer, "wrong"), gone(peer), came(peer))
		}
	}
	feed(t, c, "", "", says(5, u), says(5, "wrong"), says(5, ""), gone(5))
	checkLog(t, "another peer", d, log...)
	checkHas(t, "another peer", c, 4, entry(t, ten, 1))
	checkHasNot(t, "another peer", c, 0, 1, 2, 3, 5)
}

func TestFeedAllGone(t *testing.T) {
	for _, body := range []string{"", "\x04", "\x00", "any bytes", strings.Repeat("\xff", api.MaxFrame-4)} {
		d := routelog.NewDisk(plenty)
		c := opened(t, d)
		feed(t, c, frame(frameAllGone, body), came(5)+came(4)+frame(frameAllGone, body)+frame(frameAllGone, body)+came(5)+frame(frameAllGone, body))
		checkLog(t, "all gone", d, up(0, 5), up(0, 4), down(0, 4), down(0, 5), up(0, 5), down(0, 5))
		checkHasNot(t, "all gone", c, 4, 5)
	}
}

// Updates that Update refuses bring the peer down; one that is spoilt, and one of nothing, do not.
func TestFeedUpdates(t *testing.T) {
	u := announcing(t, 1, "", "08 0a 10 0a 01")
	for _, wrong := range []string{"", "x", framed(api.KeepAlive, ""), framed(api.Updating, ""), u + "x", u[1:], u[:len(u)-1], u + u, updatingHex(t, "21", "", ""), updatingHex(t, "", "40 63 00", "")} {
		d := routelog.NewDisk(plenty)
		c := opened(t, d)
		feed(t, c, came(4)+came(5)+says(4, u)+says(4, wrong)+says(4, wrong)+says(4, u))
		checkLog(t, "refused", d, up(0, 4), up(0, 5), heardFrom(0, 4, u), down(0, 4))
		checkHasNot(t, "refused", c, 4)
		checkHas(t, "the other one", c, 5)
	}
	d := routelog.NewDisk(plenty)
	c := opened(t, d)
	spoilt, nothing := updatingHex(t, "", "40 01 01 09", "08 0a 08 0b"), updatingHex(t, "", "", "")
	feed(t, c, came(4)+says(4, u)+says(4, spoilt)+says(4, nothing))
	checkLog(t, "spoilt", d, up(0, 4), heardFrom(0, 4, u), heardFrom(0, 4, spoilt), heardFrom(0, 4, nothing))
	checkHas(t, "spoilt", c, 4, entry(t, tenOne, 1))
}

// routeTale is updates of a peer that is up, of which the last one is refused or none, and how many routes there are then.
type routeTale struct {
	what    string
	updates []string
	refused bool
	left    int
}

// routeTales answers tales that lead to MaxRoutes routes, or to one more.
func routeTales(t *testing.T) []routeTale {
	t.Helper()
	u := func(withdrawn, announced string) string { return announcingBytes(t, withdrawn, announced) }
	most := u("", routesFrom(0, api.MaxRoutes))
	return []routeTale{
		{"at once", []string{most}, false, 12},
		{"one more at once", []string{u("", routesFrom(0, api.MaxRoutes+1))}, true, 0},
		{"twice the same", []string{most, most}, false, 12},
		{"one of them again", []string{most, u("", routesFrom(3, 1))}, false, 12},
		{"one more", []string{most, u("", routesFrom(12, 1))}, true, 0},
		{"one for another", []string{most, u(routesFrom(3, 1), routesFrom(12, 1))}, false, 12},
		{"one for one that isn't there", []string{most, u(routesFrom(20, 1), routesFrom(12, 1))}, true, 0},
		{"one that goes and comes, and another", []string{most, u(routesFrom(3, 1), routesFrom(3, 1)+routesFrom(12, 1))}, true, 0},
		{"the same one thirteen times", []string{u("", strings.Repeat(routesFrom(3, 1), 13))}, false, 1},
		{"one by one", []string{u("", routesFrom(0, 11)), u("", routesFrom(11, 1)), u(routesFrom(0, 2), ""), u("", routesFrom(20, 2))}, false, 12},
		{"all for others", []string{most, u(routesFrom(0, 12), routesFrom(12, 12))}, false, 12},
		{"spoilt", []string{most, updatingHex(t, "", "40 01 01 09", "18 0b 00 00 18 0a 00 01")}, false, 11},
	}
}

// checkSegment looks at the first segment of a disk, behind what an empty disk's begins with.
func checkSegment(t *testing.T, what string, d *routelog.Disk, want ...api.Record) {
	t.Helper()
	if b, e := d.Read("s0001"); b != opening(0)+logged(want...) || e != api.OK {
		t.Errorf("%s: the segment is %x, %d, want %x", what, b, e, opening(0)+logged(want...))
	}
}

// A peer may have MaxRoutes routes behind an update, whatever there was in its midst, and no more.
func TestFeedMaxRoutes(t *testing.T) {
	for _, s := range routeTales(t) {
		d := routelog.NewDisk(plenty)
		c := opened(t, d)
		feed(t, c, came(5), came(4))
		log := []api.Record{up(0, 5), up(0, 4)}
		for _, m := range s.updates {
			feed(t, c, says(5, m))
			log = append(log, heardFrom(0, 5, m))
		}
		if s.refused {
			log[len(log)-1] = down(0, 5)
		}
		checkSegment(t, s.what, d, log...)
		if l, isUp, _ := c.Routes(5); len(l) != s.left || isUp == s.refused {
			t.Errorf("%s: %d routes, %v, want %d", s.what, len(l), isUp, s.left)
		}
		checkHas(t, "the other one", c, 4)
	}
}

// How frames are cut in pieces changes nothing.
func TestFeedPieces(t *testing.T) {
	u := announcing(t, 1, "", "08 0a 10 0a 01")
	b := came(4) + frame(77, "any") + came(5) + says(4, u) + frame(1, "") + frame(frameAllGone, "any") + came(5) + says(5, u) + frame(0, strings.Repeat("\xff", api.MaxFrame-4)) + gone(5) + came(4)
	want := []api.Record{up(0, 4), up(0, 5), heardFrom(0, 4, u), down(0, 4), down(0, 5), up(0, 5), heardFrom(0, 5, u), down(0, 5), up(0, 4)}
	for size := 1; size <= len(b); size++ {
		d := routelog.NewDisk(plenty)
		c := opened(t, d)
		for i := 0; i < len(b); i += size {
			feed(t, c, b[i:min(i+size, len(b))], "")
			checkAgrees(t, "in pieces", d, c)
		}
		checkLog(t, "in pieces", d, want...)
	}
	for i := range b {
		d := routelog.NewDisk(plenty)
		c := opened(t, d)
		feed(t, c, b[:i], b[i:])
		checkLog(t, "in two pieces", d, want...)
	}
}

// A frame does what it asks for as soon as it is whole, and not sooner.
func TestFeedWhole(t *testing.T) {
	u := announcing(t, 1, "", "08 0a")
	d := routelog.NewDisk(plenty)
	c := opened(t, d)
	feed(t, c, came(4)+came(4)[:4])
	checkLog(t, "one and a part", d, up(0, 4))
	tick(t, c, 3)
	feed(t, c, "\x05"+says(5, u)[:len(says(5, u))-1])
	checkLog(t, "the other part, and a part", d, up(0, 4), up(3, 5))
	tick(t, c, 4)
	feed(t, c, says(5, u)[len(says(5, u))-1:])
	checkLog(t, "the last byte", d, up(0, 4), up(3, 5), heardFrom(4, 5, u))
}

// Lengths from 4 to MaxFrame are a frame's.
func TestFeedLengths(t *testing.T) {
	for n := 4; n <= api.MaxFrame; n++ {
		d := routelog.NewDisk(plenty)
		c := opened(t, d)
		feed(t, c, frame(9, strings.Repeat("\x00", n-4))+came(4))
		checkHas(t, "a length that may be", c, 4)
	}
	for _, n := range []int{0, 1, 2, 3, api.MaxFrame + 1, api.MaxFrame + 2, 256, 260, 1024, 4 << 8, 65535} {
		checkWrongFeed(t, "a length that may not be", frameLength(n))
		checkWrongFeed(t, "a length that may not be, and all of it", frameLength(n)+strings.Repeat("\x00", n))
	}
}

func TestFeedFirstByte(t *testing.T) {
	for first := range 256 {
		if first == 3 {
			continue
		}
		checkWrongFeed(t, "a wrong first byte", string([]byte{byte(first)}))
		checkWrongFeed(t, "a wrong first byte, and more", string([]byte{byte(first)})+came(4)[1:]+came(4))
	}
}

// checkWrongFeed looks at bytes that are no frames: behind nothing, behind whole frames, and behind others of the kind.
func checkWrongFeed(t *testing.T, what, wrong string) {
	t.Helper()
	d := routelog.NewDisk(plenty)
	c := opened(t, d)
	checkErrors(t, what, api.ErrFeed, c.Feed(wrong), c.Feed(wrong))
	checkLog(t, what+", none up", d)
	feed(t, c, came(5))
	checkErrors(t, what, api.ErrFeed, c.Feed(came(4)+came(4)+wrong))
	log := []api.Record{up(0, 5), up(0, 4), up(0, 4), down(0, 4), down(0, 5)}
	checkLog(t, what+", two up", d, log...)
	checkErrors(t, what, api.ErrFeed, c.Feed(wrong+came(4)))
	checkLog(t, what+", and more", d, log...)
	feed(t, c, came(5))
	checkErrors(t, what, api.ErrFeed, c.Feed(wrong))
	log = append(log, up(0, 5), down(0, 5))
	checkLog(t, what+", one up", d, log...)
	feed(t, c, came(4))
	checkLog(t, what+", and a frame behind it", d, append(log, up(0, 4))...)
	checkWrites(t, what, c, true)
}

// Bytes are wrong as soon as that is to be seen, and what came before is thrown away with them.
func TestFeedWrongInPieces(t *testing.T) {
	d := routelog.NewDisk(plenty)
	c := opened(t, d)
	feed(t, c, came(4)+"\x03", "\x00")
	checkErrors(t, "the length's last byte", api.ErrFeed, c.Feed("\x03"))
	checkLog(t, "thrown away", d, up(0, 4), down(0, 4))
	feed(t, c, "\x03\xff")
	checkErrors(t, "the length's last byte", api.ErrFeed, c.Feed("\xff"))
	feed(t, c, came(4)[:4])
	checkErrors(t, "behind a whole frame", api.ErrFeed, c.Feed("\x04\x00"))
	checkLog(t, "thrown away", d, up(0, 4), down(0, 4), up(0, 4), down(0, 4))
	feed(t, c, came(5))
	checkHas(t, "thrown away", c, 5)
}

// Peers with sessions that were up have nothing to do with the feed.
func TestFeedIsOfItsPeers(t *testing.T) {
	d := diskOf(t, plenty, content{"s0001": opening(0) + logged(up(0, 0), up(0, 3))})
	c := opened(t, d)
	feed(t, c, came(0)+came(3)+came(4)+frame(frameAllGone, ""))
	checkErrors(t, "wrong", api.ErrFeed, c.Feed("wrong"))
	checkLog(t, "its peers", d, up(0, 0), up(0, 3), down(0, 0), down(0, 3), up(0, 4), down(0, 4))
}
