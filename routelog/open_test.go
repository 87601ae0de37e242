package routelog_test

import (
	"strings"
	"testing"

	"routelog/api"
	"routelog/routelog"
)

func TestOpenNothing(t *testing.T) {
	d := routelog.NewDisk(plenty)
	c := opened(t, d)
	want := content{"s0001": opening(0), "index": indexed(1, 0)}
	checkFiles(t, "an empty disk", d, want)
	checkHasNot(t, "an empty disk", c, 0, 1, 2, 3, 4, 5)
	checkErrors(t, "Crash", api.OK, d.Crash(nil))
	checkFiles(t, "what is synced", d, want)
	checkHasNot(t, "opened again", opened(t, d), 0, 1, 2, 3, 4, 5)
	checkFiles(t, "opened again", d, want)
}

func TestOpenNil(t *testing.T) {
	if c, e := routelog.Open(nil); c != nil || e != api.ErrNil {
		t.Errorf("Open of nil = %v, %d", c, e)
	}
}

// Files that are no segments are left alone, but for tmp and the index.
func TestOpenOtherFiles(t *testing.T) {
	files := content{"tmp": "left", "index": "wrong", "s0000": "torn", "s00001": "torn", "s1": opening(7), "s000a": opening(7), "S0001": "", "tmp2": "x", "a": logged(up(9, 4)), "index2": "y"}
	d := diskOf(t, plenty, files)
	c := opened(t, d)
	delete(files, "tmp")
	files["s0001"], files["index"] = opening(0), indexed(1, 0)
	checkFiles(t, "files that are no segments", d, files)
	feed(t, c, came(4))
	files["s0001"] += logged(up(0, 4))
	checkFiles(t, "files that are no segments", d, files)
}

// What stands behind a segment's records is taken from it, and only there is the disk changed.
func TestOpenTorn(t *testing.T) {
	one, two, five := opening(3)+logged(up(4, 4)), logged(told(t, 6, 4, ten, 1)), logged(down(5, 4), up(5, 5), down(5, 5))
	wrong := logged(api.Record{Time: 99, Kind: 7})
	for _, torn := range []string{"t", "torn", wrong, one[:11], one[:3], one[1:], wrong + one, strings.Repeat("\x00", 500)} {
		d := diskOf(t, plenty, content{"s0001": one + torn, "s0002": two + torn, "s0003": torn, "s0004": "", "s0005": five + torn})
		c := opened(t, d)
		want := content{"s0001": one, "s0002": two, "s0003": "", "s0004": "", "s0005": five, "index": indexed(1, 3, 2, 6, 3, 0, 4, 0, 5, 5)}
		checkFiles(t, "torn", d, want)
		checkHasNot(t, "torn", c, 4, 5)
		checkQuery(t, "torn", d, 4, 4)
		feed(t, c, came(5))
		want["s0005"] += logged(up(6, 5))
		checkFiles(t, "torn", d, want)
	}
}

// The last segment is torn to nothing: it is still the last one, and gets its first record.
func TestOpenTornToNothing(t *testing.T) {
	d := diskOf(t, plenty, content{"s0001": opening(3, up(0, 5)), "s0007": "torn"})
	c := opened(t, d)
	want := content{"s0001": opening(3, up(0, 5)), "s0007": logged(down(3, 5)), "index": indexed(1, 3, 7, 3)}
	checkFiles(t, "a Down in it", d, want)
	checkHasNot(t, "a Down in it", c, 5)
	d = diskOf(t, plenty, content{"s0001": opening(3), "s0007": "torn"})
	c = opened(t, d)
	want = content{"s0001": opening(3), "s0007": "", "index": indexed(1, 3, 7, 0)}
	checkFiles(t, "no Down", d, want)
	tick(t, c, 8)
	feed(t, c, came(4))
	want["s0007"] = logged(up(8, 4))
	checkFiles(t, "an Up behind that", d, want)
	checkHas(t, "an Up behind that", c, 4)
}

func TestOpenDowns(t *testing.T) {
	one := logged(up(9, 5), up(2, 0), up(2, 3), up(2, 1), told(t, 2, 1, ten, 1), up(2, 4), down(2, 4), up(2, 2), heardFrom(2, 2, announcing(t, 1, "", "08 0a")))
	d := diskOf(t, plenty, content{"s0001": one})
	c := opened(t, d)
	one += logged(down(9, 0), down(9, 1), down(9, 2), down(9, 3), down(9, 5))
	checkFiles(t, "peers that were up", d, content{"s0001": one, "index": indexed(1, 9)})
	checkHasNot(t, "peers that were up", c, 0, 1, 2, 3, 4, 5)
	checkErrors(t, "Crash", api.OK, d.Crash(nil))
	checkFiles(t, "what is synced", d, content{"s0001": one, "index": indexed(1, 9)})
}

// The time that is now is the greatest, wherever it stands.
func TestOpenTimes(t *testing.T) {
	for _, s := range []struct {
		files content
		now   int
	}{
		{content{}, 0},
		{content{"s0001": "", "s0002": "torn"}, 0},
		{content{"s0001": logged(down(api.MaxTime, 0)), "s0002": logged(down(1, 0))}, api.MaxTime},
		{content{"s0001": logged(down(1, 0), down(70000, 0), down(2, 0)), "s0002": logged(down(1, 0))}, 70000},
		{content{"s0001": logged(down(1, 0)), "s0002": logged(down(1, 0), down(5, 0), down(4, 0)) + logged(down(9, 0))[1:]}, 5},
		{content{"s0001": logged(api.Record{Time: 8, Kind: api.Body}), "s0002": "", "s00003": logged(down(9, 0))}, 8},
	} {
		d := diskOf(t, plenty, s.files)
		c := opened(t, d)
		names, _ := d.List()
		last := names[len(names)-1]
		before, _ := d.Read(last)
		feed(t, c, came(5))
		after, _ := d.Read(last)
		if after != before+logged(up(s.now, 5)) {
			t.Errorf("%x: behind %x stands %x, want the time %d", s.files, before, after, s.now)
		}
	}
}

// Segments may leave gaps, and the next one is behind the greatest number.
func TestOpenGaps(t *testing.T) {
	long := sized(t, 500)
	for _, s := range []struct {
		name, next string
		number     int
	}{{"s0003", "s0004", 3}, {"s0009", "s0010", 9}, {"s0099", "s0100", 99}, {"s0999", "s1000", 999}, {"s9998", "s9999", 9998}} {
		d := diskOf(t, plenty, content{"s0002": opening(4), s.name: long})
		c := opened(t, d)
		want := content{"s0002": opening(4), s.name: long, "index": indexed(2, 4, s.number, 0)}
		checkFiles(t, "gaps", d, want)
		feed(t, c, came(4))
		want[s.next], want["index"] = opening(4)+logged(up(4, 4)), indexed(2, 4, s.number, 0, s.number+1, 4)
		checkFiles(t, "gaps", d, want)
	}
}

// A Down that finds a long segment begins one, and that tells who is still up.
func TestOpenLong(t *testing.T) {
	one := sized(t, 380) + logged(up(6, 4), up(6, 2), told(t, 6, 4, tenOne, 1), told(t, 6, 4, ten, 2))
	d := diskOf(t, plenty, content{"s0001": one})
	c := opened(t, d)
	want := content{
		"s0001": one,
		"s0002": opening(6, up(6, 2), up(6, 4), told(t, 6, 4, ten, 2), told(t, 6, 4, tenOne, 1)) + logged(down(6, 2), down(6, 4)),
		"index": indexed(1, 0, 2, 6),
	}
	checkFiles(t, "two Downs", d, want)
	checkHasNot(t, "two Downs", c, 0, 1, 2, 3, 4, 5)
	checkErrors(t, "Crash", api.OK, d.Crash(nil))
	checkFiles(t, "what is synced", d, want)
	long := sized(t, 900)
	d = diskOf(t, plenty, content{"s0001": long})
	opened(t, d)
	checkFiles(t, "no Down", d, content{"s0001": long, "index": indexed(1, 0)})
}

// The Downs go over from one segment to the next.
func TestOpenLongBetween(t *testing.T) {
	one := sized(t, 360) + logged(up(6, 0), up(6, 1), up(6, 5))
	d := diskOf(t, plenty, content{"s0001": one})
	opened(t, d)
	checkFiles(t, "a long one", d, content{"s0001": one + logged(down(6, 0)), "s0002": opening(6, up(6, 1), up(6, 5)) + logged(down(6, 1), down(6, 5)), "index": indexed(1, 0, 2, 6)})
}

// Open lets the last segment outlast a crash, and not the ones ahead of it.
func TestOpenSyncs(t *testing.T) {
	d := diskOf(t, plenty, content{"s0001": opening(1), "s0002": opening(2)})
	opened(t, d)
	checkErrors(t, "Crash", api.OK, d.Crash(nil))
	checkFiles(t, "what is synced", d, content{"s0001": "", "s0002": opening(2), "index": indexed(1, 1, 2, 2)})
}

// Open changes the disk by no more calls than it must, the index last: a disk that breaks one call sooner keeps the old one.
func TestOpenCalls(t *testing.T) {
	for _, s := range []struct {
		files content
		calls int
		index string
	}{
		{content{}, 3 + 3 + 1 + 3, indexed(1, 0)},
		{content{"index": "left"}, 3 + 3 + 1 + 3, indexed(1, 0)},
		{content{"s0001": opening(1), "index": "left"}, 1 + 3, indexed(1, 1)},
		{content{"s0001": opening(1), "s0002": "", "index": "left", "tmp": "left"}, 1 + 1 + 3, indexed(1, 1, 2, 0)},
		{content{"s0001": opening(1) + "torn", "s0002": "torn", "s0003": opening(3), "index": "left"}, 2 + 1 + 3, indexed(1, 1, 2, 0, 3, 3)},
		{content{"s0001": opening(1) + logged(up(2, 1), up(2, 4)), "index": "left"}, 2 + 1 + 3, indexed(1, 1)},
		{content{"s0001": sized(t, 390) + logged(up(2, 1), down(2, 4)), "index": "left"}, 1 + 3 + 3 + 1 + 1 + 3, indexed(1, 0, 2, 2)},
	} {
		for n := range s.calls + 2 {
			d := diskOf(t, plenty, s.files)
			checkErrors(t, "Break", api.OK, d.Break(n))
			opened(t, d)
			d.Append("probe", "x")
			_, e := d.Read("probe")
			if broken := e != api.OK; broken != (n <= s.calls) {
				t.Errorf("%x: broken behind %d calls: %v, but Open takes %d", s.files, n, broken, s.calls)
			}
			if index, _ := d.Read("index"); n >= s.calls && index != s.index {
				t.Errorf("%x: the index is %x, want %x", s.files, index, s.index)
			}
		}
	}
}

// A log that another way of writing left: no Head, a Head in the midst, peers that are up across segments.
func TestOpenWithoutHeads(t *testing.T) {
	d := diskOf(t, plenty, content{"s0001": logged(up(1, 4)), "s0002": logged(told(t, 2, 4, ten, 1)), "s0003": logged(up(3, 5)) + opening(3, up(3, 1)) + logged(told(t, 3, 4, ten, 2)), "s0004": logged(up(4, 0))})
	opened(t, d)
	if b, _ := d.Read("s0004"); b != logged(up(4, 0), down(4, 0), down(4, 1)) {
		t.Errorf("the last segment is %x", b)
	}
	d = diskOf(t, plenty, content{"s0001": logged(up(1, 4)), "s0002": opening(2, up(2, 5)), "s0003": logged(told(t, 2, 5, ten, 1), told(t, 2, 4, ten, 2))})
	checkQuery(t, "before", d, 5, 2, entry(t, ten, 1))
	opened(t, d)
	if b, _ := d.Read("s0003"); b != logged(told(t, 2, 5, ten, 1), told(t, 2, 4, ten, 2), down(2, 5)) {
		t.Errorf("the last segment is %x", b)
	}
}

// One that is opened behind another goes on where that one was.
func TestOpenAgain(t *testing.T) {
	d := routelog.NewDisk(plenty)
	c := opened(t, d)
	tick(t, c, 7)
	feed(t, c, came(4), says(4, announcing(t, 1, "", "08 0a")), "\x03")
	log := opening(0) + logged(up(7, 4), heardFrom(7, 4, announcing(t, 1, "", "08 0a")))
	c = opened(t, d)
	feed(t, c, came(5))
	log += logged(down(7, 4), up(7, 5))
	checkFiles(t, "opened again", d, content{"s0001": log, "index": indexed(1, 0)})
	checkHasNot(t, "opened again", c, 4)
	checkHas(t, "opened again", c, 5)
	checkQuery(t, "what was told then is down now", d, 5, 7)
	checkNotUp(t, "what was told then is down now", d, 7, 4)
}

func TestOpenDisksApart(t *testing.T) {
	d, other := routelog.NewDisk(plenty), routelog.NewDisk(plenty)
	c, second := opened(t, d), opened(t, other)
	tick(t, c, 9)
	feed(t, c, came(4), "\x03")
	feed(t, second, came(5))
	checkHas(t, "the one", c, 4)
	checkHasNot(t, "the one", c, 5)
	checkHas(t, "the other", second, 5)
	checkHasNot(t, "the other", second, 4)
	checkFiles(t, "the one", d, content{"s0001": opening(0) + logged(up(9, 4)), "index": indexed(1, 0)})
	checkFiles(t, "the other", other, content{"s0001": opening(0) + logged(up(0, 5)), "index": indexed(1, 0)})
}
