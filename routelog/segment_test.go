package routelog_test

import (
	"testing"

	"routelog/api"
	"routelog/routelog"
)

// A record goes into the last segment as long as that has less than SegmentSize bytes.
func TestSegmentSize(t *testing.T) {
	for n := api.SegmentSize - 3; n < api.SegmentSize+4; n++ {
		one := sized(t, n)
		d := diskOf(t, plenty, content{"s0001": one})
		c := opened(t, d)
		checkFiles(t, "opened", d, content{"s0001": one, "index": indexed(1, 0)})
		feed(t, c, came(4))
		want := content{"s0001": one + logged(up(0, 4)), "index": indexed(1, 0)}
		if n >= api.SegmentSize {
			want = content{"s0001": one, "s0002": opening(0) + logged(up(0, 4)), "index": indexed(1, 0, 2, 0)}
		}
		checkFiles(t, "a record", d, want)
		checkHas(t, "a record", c, 4)
	}
}

// What begins a segment tells the peers in order, and the routes of each in order, at the time that is now.
func TestSegmentTellsTheState(t *testing.T) {
	one := sized(t, 399)
	d := diskOf(t, plenty, content{"s0001": one})
	c := opened(t, d)
	tick(t, c, 70000)
	u := announcing(t, 1, "", "20 c8 00 00 01 10 0a 01 08 0a")
	feed(t, c, came(5)+says(5, u)+came(4)+says(4, announcing(t, 2, "", "00 09 0a 80"))+says(5, announcing(t, 3, "10 0a 01", "08 0a")))
	two := opening(70000, up(0, 5)) + logged(heardFrom(70000, 5, u), up(70000, 4), heardFrom(70000, 4, announcing(t, 2, "", "00 09 0a 80")), heardFrom(70000, 5, announcing(t, 3, "10 0a 01", "08 0a")))
	one += logged(up(70000, 5))
	want := content{"s0001": one, "s0002": two, "index": indexed(1, 0, 2, 70000)}
	checkFiles(t, "the second", d, want)
	for len(want["s0002"]) < api.SegmentSize {
		feed(t, c, came(4))
		want["s0002"] += logged(up(70000, 4))
	}
	tick(t, c, 70001)
	feed(t, c, says(4, announcing(t, 2, "", "00 09 0a 80")))
	far := api.Prefix{Addr: 200<<24 | 1, Len: 32}
	want["s0003"] = opening(70001, up(0, 4), up(0, 5), told(t, 0, 5, ten, 3), told(t, 0, 5, far, 1)) + logged(heardFrom(70001, 4, announcing(t, 2, "", "00 09 0a 80")))
	want["index"] = indexed(1, 0, 2, 70000, 3, 70001)
	checkFiles(t, "the third", d, want)
	checkHas(t, "the third", c, 4, entry(t, all, 2), entry(t, oddBits, 2))
	checkHas(t, "the third", c, 5, entry(t, ten, 3), entry(t, far, 1))
}

// Where what is told alone has SegmentSize bytes, each record gets a segment.
func TestSegmentLongFromTheBeginning(t *testing.T) {
	d := routelog.NewDisk(plenty)
	c := opened(t, d)
	u := announcing(t, 1, "", "08 01 08 02 08 03 08 04 08 05 08 06 08 07 08 08 08 09 08 0a 08 0b 08 0c")
	feed(t, c, came(4), says(4, u))
	var routes []api.Record
	for i := range api.MaxRoutes {
		routes = append(routes, told(t, 0, 4, api.Prefix{Addr: (i + 1) << 24, Len: 8}, 1))
	}
	begun := opening(0, append([]api.Record{up(0, 4)}, routes...)...)
	one := opening(0) + logged(up(0, 4), heardFrom(0, 4, u))
	want := content{"s0001": one, "index": indexed(1, 0)}
	for len(want["s0001"]) < api.SegmentSize {
		feed(t, c, says(4, u))
		want["s0001"] += logged(heardFrom(0, 4, u))
	}
	feed(t, c, says(4, u), says(4, u))
	want["s0002"], want["s0003"] = begun+logged(heardFrom(0, 4, u)), begun+logged(heardFrom(0, 4, u))
	want["index"] = indexed(1, 0, 2, 0, 3, 0)
	checkFiles(t, "a segment a record", d, want)
	feed(t, c, came(4), came(5))
	want["s0004"], want["index"] = begun+logged(up(0, 4)), indexed(1, 0, 2, 0, 3, 0, 4, 0)
	want["s0005"], want["index"] = opening(0, up(0, 4))+logged(up(0, 5)), indexed(1, 0, 2, 0, 3, 0, 4, 0, 5, 0)
	checkFiles(t, "without the routes", d, want)
}

// A segment is synced ahead of the next one, and that one and the index outlast a crash from their beginning.
func TestSegmentOutlastsACrash(t *testing.T) {
	one := sized(t, 399)
	d := diskOf(t, plenty, content{"s0001": one})
	c := opened(t, d)
	feed(t, c, came(4), came(5))
	one += logged(up(0, 4))
	checkErrors(t, "Crash", api.OK, d.Crash(nil))
	checkFiles(t, "what is synced", d, content{"s0001": one, "s0002": opening(0, up(0, 4)), "index": indexed(1, 0, 2, 0)})
	d = diskOf(t, plenty, content{"s0001": sized(t, 399)})
	c = opened(t, d)
	feed(t, c, came(4))
	checkErrors(t, "Crash", api.OK, d.Crash(nil))
	checkFiles(t, "no record is synced as it is written", d, content{"s0001": sized(t, 399), "index": indexed(1, 0)})
}

// The time of a segment's first record is told by the index also where that came behind the segment.
func TestSegmentIndexIsOfNow(t *testing.T) {
	d := diskOf(t, plenty, content{"s0004": "", "s0006": ""})
	c := opened(t, d)
	checkFiles(t, "no records", d, content{"s0004": "", "s0006": "", "index": indexed(4, 0, 6, 0)})
	tick(t, c, 12)
	feed(t, c, came(4))
	log := logged(up(12, 4))
	tick(t, c, 13)
	for len(log) < api.SegmentSize {
		feed(t, c, came(4))
		log += logged(up(13, 4))
	}
	feed(t, c, gone(4))
	checkFiles(t, "a third", d, content{"s0004": "", "s0006": log, "s0007": opening(13, up(13, 4)) + logged(down(13, 4)), "index": indexed(4, 0, 6, 12, 7, 13)})
}

// Long attributes, and flags that are told as they were kept, go over into the next segment.
func TestSegmentTellsAttributes(t *testing.T) {
	attrs := canonical + " 80 04 00 04 00 00 00 09 e0 c8 00 03 01 02 03"
	update := updatingHex(t, "", "e0 c8 03 01 02 03 "+needed+" 80 04 04 00 00 00 09", "08 0a")
	d := diskOf(t, plenty, content{"s0001": sized(t, 390)})
	c := opened(t, d)
	feed(t, c, came(4)+came(5)+says(5, update))
	want := api.Entry{Addr: ten.Addr, Len: ten.Len, Attrs: unhex(t, attrs)}
	checkHas(t, "before", c, 5, want)
	for i := 3; ; i++ {
		feed(t, c, came(4))
		if b, e := d.Read("s0003"); e == api.OK {
			route := api.Record{Kind: api.Route, Peer: 5, Body: routeBody(ten, unhex(t, attrs))}
			if b != opening(0, up(0, 4), up(0, 5), route)+logged(up(0, 4)) {
				t.Errorf("the third segment is %x", b)
			}
			break
		}
		if i > 100 {
			t.Fatal("no third segment comes")
		}
	}
	checkHas(t, "behind", c, 5, want)
}

// A tmp that somebody laid there meanwhile is in the way of neither a segment nor the index.
func TestSegmentDeletesTmp(t *testing.T) {
	one := sized(t, 400)
	d := diskOf(t, plenty, content{"s0001": one})
	c := opened(t, d)
	checkErrors(t, "Append", api.OK, d.Append("tmp", "left"))
	feed(t, c, came(4))
	checkFiles(t, "a tmp", d, content{"s0001": one, "s0002": opening(0) + logged(up(0, 4)), "index": indexed(1, 0, 2, 0)})
	checkHas(t, "a tmp", c, 4)
}
