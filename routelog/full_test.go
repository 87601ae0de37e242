package routelog_test

import (
	"maps"
	"testing"

	"routelog/api"
	"routelog/routelog"
)

// change is one that a call makes to the files of a disk.
type change struct {
	call  int
	needs int // how much room must be there for it
	files content
}

// history is changes, one behind the other.
type history struct {
	call    int
	files   content
	changes []change
}

// write is a change that appends to a file.
func (h *history) write(name, b string) {
	h.change(name, h.files[name]+b, len(b))
}

// lay is a change that makes a whole file: while it is made, an old one of its name is there too.
func (h *history) lay(name, b string) {
	h.change(name, b, len(b))
}

func (h *history) change(name, b string, more int) {
	h.files = maps.Clone(h.files)
	needs := more + h.used()
	h.files[name] = b
	h.changes = append(h.changes, change{h.call, needs, h.files})
}

func (h *history) used() int {
	n := 0
	for _, b := range h.files {
		n += len(b)
	}
	return n
}

// until answers the files of a disk with so much room, and the call that finds it too little; behind the last call, if none does.
func (h *history) until(capacity int) (files content, full int) {
	files = content{}
	for _, c := range h.changes {
		if c.needs > capacity {
			return files, c.call
		}
		files = c.files
	}
	return files, h.call + 1
}

// historyOfOpen answers what Open does to an empty disk.
func historyOfOpen() *history {
	h := &history{files: content{}}
	h.lay("s0001", opening(0))
	h.lay("index", indexed(1, 0))
	h.lay("index", indexed(1, 0))
	return h
}

// A disk of any size: what there is room for is written, in the order of the document, and the call that finds none answers ErrFull.
func TestFullAtAnyRoom(t *testing.T) {
	u := announcing(t, 1, "", "08 0a")
	h := historyOfOpen()
	calls := []string{"", came(4)}
	h.call++
	h.write("s0001", logged(up(0, 4)))
	for len(h.files["s0001"]) < api.SegmentSize {
		calls = append(calls, says(4, u))
		h.call++
		h.write("s0001", logged(heardFrom(0, 4, u)))
	}
	calls = append(calls, came(5)+says(5, u), gone(3)+"\x03", came(5)[1:]+says(5, u)+"wrong", came(4))
	h.call++
	h.lay("s0002", opening(0, up(0, 4), told(t, 0, 4, ten, 1)))
	h.lay("index", indexed(1, 0, 2, 0))
	h.write("s0002", logged(up(0, 5)))
	h.write("s0002", logged(heardFrom(0, 5, u)))
	h.call += 2
	h.write("s0002", logged(up(0, 5)))
	h.write("s0002", logged(heardFrom(0, 5, u)))
	h.write("s0002", logged(down(0, 4)))
	h.write("s0002", logged(down(0, 5)))
	h.call++
	h.write("s0002", logged(up(0, 4)))
	wrong := len(calls) - 2
	for capacity := -1; capacity < h.used()+50; capacity++ {
		checkFullAt(t, capacity, calls, wrong, h)
	}
}

// checkFullAt looks at what calls of Feed do, the first one being Open, and one of them bringing bytes that are wrong.
func checkFullAt(t *testing.T, capacity int, calls []string, wrong int, h *history) {
	t.Helper()
	want, full := h.until(capacity)
	d := routelog.NewDisk(capacity)
	c := openedAnyhow(t, d)
	checkWrites(t, "opened", c, full > 0)
	for i, b := range calls[1:] {
		answer := api.OK
		switch {
		case i+1 >= full:
			answer = api.ErrFull
		case i+1 == wrong:
			answer = api.ErrFeed
		}
		if e := c.Feed(b); e != answer {
			t.Errorf("room for %d: call %d, Feed(%x) = %d, want %d", capacity, i+1, b, e, answer)
		}
		checkWrites(t, "fed", c, i+1 < full)
	}
	checkFiles(t, "at the end", d, want)
	checkAgrees(t, "at the end", d, c)
	if full <= h.call {
		checkFull(t, "at the end", d, c)
	}
}

// The edges by number: nothing, a part of the first segment, the segment and not the index, the index and not a second one beside it.
func TestFullWhenOpened(t *testing.T) {
	for _, s := range []struct {
		from, to int
		files    content
	}{
		{-3, 23, content{}},
		{24, 33, content{"s0001": opening(0)}},
		{34, 43, content{"s0001": opening(0), "index": indexed(1, 0)}},
	} {
		for capacity := s.from; capacity <= s.to; capacity++ {
			d := routelog.NewDisk(capacity)
			c := openedFull(t, d)
			checkFiles(t, "too little room", d, s.files)
			checkHasNot(t, "too little room", c, 0, 1, 2, 3, 4, 5)
		}
	}
	opened(t, routelog.NewDisk(44))
}

// What Open mends is mended also where there is no room for the Downs or the index; what stands behind them is not done.
func TestFullAtTheDowns(t *testing.T) {
	one, two := opening(7)+logged(up(7, 1), up(7, 4), told(t, 7, 4, ten, 1)), logged(up(7, 5))
	downs := []api.Record{down(7, 1), down(7, 4), down(7, 5)}
	files := content{"s0002": one, "s0009": two + "t", "index": "left", "tmp": ""}
	kept := len(one) + len(two) + len(files["index"])
	index := indexed(2, 7, 9, 7)
	for room := 1; room < len(logged(downs...))+len(index); room++ {
		d := diskOf(t, kept+room, files)
		openedFull(t, d)
		written := downs[:min(room/len(logged(downs[0])), len(downs))]
		checkFiles(t, "no room", d, content{"s0002": one, "s0009": two + logged(written...), "index": "left"})
		checkErrors(t, "Crash", api.OK, d.Crash(nil))
		synced := ""
		if len(written) == len(downs) {
			synced = two + logged(downs...)
		}
		checkFiles(t, "what is synced", d, content{"s0002": "", "s0009": synced, "index": ""})
	}
	d := diskOf(t, kept+len(logged(downs...))+len(index), files)
	opened(t, d)
	checkFiles(t, "room", d, content{"s0002": one, "s0009": two + logged(downs...), "index": index})
}

// No segment has a number above MaxSegment; the last one is synced then, and no tmp is left.
func TestFullOfSegments(t *testing.T) {
	long, nearly := sized(t, 400), sized(t, 399)
	d := diskOf(t, plenty, content{"s9998": long})
	c := opened(t, d)
	feed(t, c, came(4))
	want := content{"s9998": long, "s9999": opening(0) + logged(up(0, 4)), "index": indexed(9998, 0, 9999, 0)}
	checkFiles(t, "the last segment", d, want)
	for len(want["s9999"]) < api.SegmentSize {
		feed(t, c, came(5))
		want["s9999"] += logged(up(0, 5))
	}
	checkWrites(t, "the last segment is long", c, true)
	checkErrors(t, "one that would be too many", api.ErrFull, c.Feed(gone(4)))
	checkFiles(t, "one that would be too many", d, want)
	checkFull(t, "one that would be too many", d, c)
	checkHas(t, "one that would be too many", c, 4)
	checkErrors(t, "Crash", api.OK, d.Crash(nil))
	checkFiles(t, "what is synced", d, want)
	d = diskOf(t, plenty, content{"s9999": nearly, "index": "left"})
	c = opened(t, d)
	feed(t, c, came(4))
	checkErrors(t, "in the midst of bytes", api.ErrFull, c.Feed(came(5)+came(4)+"wrong"))
	checkFiles(t, "in the midst of bytes", d, content{"s9999": nearly + logged(up(0, 4)), "index": indexed(9999, 0)})
	checkFull(t, "in the midst of bytes", d, c)
}

// A disk whose last segment has the greatest number and is long, opened: that is no fault, but for a Down that is to be written.
func TestFullOfSegmentsWhenOpened(t *testing.T) {
	d := diskOf(t, plenty, content{"s9999": sized(t, 400)})
	c := opened(t, d)
	checkFiles(t, "no Down", d, content{"s9999": sized(t, 400), "index": indexed(9999, 0)})
	checkErrors(t, "Sync", api.OK, c.Sync(), c.Feed(gone(4)))
	checkErrors(t, "a record", api.ErrFull, c.Feed(came(4)), c.Sync())
	one := sized(t, 388) + logged(up(0, 4))
	d = diskOf(t, plenty, content{"s9999": one, "index": "left", "tmp": "left"})
	c = openedFull(t, d)
	checkFiles(t, "a Down", d, content{"s9999": one, "index": "left"})
	checkHas(t, "a Down", c, 4)
	checkErrors(t, "Crash", api.OK, d.Crash(nil))
	checkFiles(t, "what is synced", d, content{"s9999": one, "index": ""})
	one = sized(t, 376) + logged(up(0, 4), up(0, 5))
	one = one[:len(one)-12]
	d = diskOf(t, plenty, content{"s9999": one + logged(up(0, 5))[:11]})
	c = opened(t, d)
	checkFiles(t, "a Down that goes in", d, content{"s9999": one + logged(down(0, 4)), "index": indexed(9999, 0)})
	checkErrors(t, "a record", api.ErrFull, c.Feed(came(4)))
}

// A frame that finds no room is the last one that is taken, and what stood ahead of it stays.
func TestFullInTheMidst(t *testing.T) {
	d := routelog.NewDisk(24 + 10 + 12 + 12 + 11)
	c := opened(t, d)
	checkErrors(t, "Feed", api.ErrFull, c.Feed(came(4)+came(5)+gone(4)+came(4)))
	checkLog(t, "in the midst", d, up(0, 4), up(0, 5))
	checkHas(t, "in the midst", c, 4)
	checkHas(t, "in the midst", c, 5)
	checkFull(t, "in the midst", d, c)
	u := announcing(t, 1, "", "08 0a")
	d = routelog.NewDisk(24 + 10 + 12 + 12)
	c = opened(t, d)
	checkErrors(t, "a record that is longer", api.ErrFull, c.Feed(came(4)+says(4, u)+came(5)))
	checkLog(t, "what would have room behind it is not written", d, up(0, 4))
	checkFull(t, "a record that is longer", d, c)
}

// Room that is made meanwhile is of no use to a collector that is full; one that is opened then has it.
func TestFullStays(t *testing.T) {
	d := routelog.NewDisk(24 + 10 + 12 + 100)
	checkErrors(t, "Append", api.OK, d.Append("other", string(make([]byte, 100))))
	checkErrors(t, "Open", api.OK, d.Truncate("other", 90))
	c := opened(t, d)
	feed(t, c, came(4))
	checkErrors(t, "full", api.ErrFull, c.Feed(came(5)))
	checkErrors(t, "Delete", api.OK, d.Delete("other"))
	checkFull(t, "with room", d, c)
	c = opened(t, d)
	checkLog(t, "another one", d, up(0, 4), down(0, 4))
	feed(t, c, came(5))
	checkLog(t, "another one", d, up(0, 4), down(0, 4), up(0, 5))
}
