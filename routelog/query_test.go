package routelog_test

import (
	"runtime"
	"slices"
	"strings"
	"testing"
	"time"

	"routelog/api"
	"routelog/routelog"
)

// What records begin a log with.
var (
	head  = api.Record{Time: 5, Kind: api.Head}
	upOne = api.Record{Time: 5, Kind: api.Up, Peer: 1}
)

// diskWith answers a disk of one segment with these records.
func diskWith(t *testing.T, l ...api.Record) *routelog.Disk {
	t.Helper()
	return diskOf(t, 1000000, content{"s0001": logged(l...)})
}

// heard answers a Message of peer 1.
func heard(time int, body string) api.Record {
	return api.Record{Time: time, Kind: api.Message, Peer: 1, Body: body}
}

// told answers a Route of a peer, with the attributes of withHop.
func told(t *testing.T, time, peer int, p api.Prefix, n int) api.Record {
	t.Helper()
	return api.Record{Time: time, Kind: api.Route, Peer: peer, Body: routeBody(p, entry(t, p, n).Attrs)}
}

func TestQueryOfNothing(t *testing.T) {
	for _, d := range []*routelog.Disk{routelog.NewDisk(0), routelog.NewDisk(-1), diskOf(t, 10, content{"s0001": ""}), diskOf(t, 10, content{"s0001": "torn"})} {
		for _, time := range []int{0, 1, api.MaxTime} {
			checkNotUp(t, "nothing", d, time, 0, 1, 2, 3, 4, 5)
		}
	}
}

func TestQueryErrors(t *testing.T) {
	d := diskWith(t, head, upOne, told(t, 5, 1, ten, 1))
	for _, peer := range []int{minInt, -1, 0, 1, api.Peers, maxInt} {
		for _, time := range []int{minInt, -1, 0, 5, api.MaxTime, api.MaxTime + 1, maxInt} {
			checkQueryError(t, nil, peer, time, api.ErrNil)
			switch {
			case peer < 0 || peer >= api.Peers:
				checkQueryError(t, d, peer, time, api.ErrPeer)
			case time < 0 || time > api.MaxTime:
				checkQueryError(t, d, peer, time, api.ErrArg)
			}
		}
	}
	for _, peer := range []int{-256, 256, 257, 1 << 32, 1<<32 + 1} {
		checkQueryError(t, d, peer, 5, api.ErrPeer)
	}
	checkQueryError(t, d, 1, 1<<32+5, api.ErrArg)
	checkQuery(t, "behind the errors", d, 1, 5, entry(t, ten, 1))
	checkNotUp(t, "the first and the last peer", d, 0, 0, api.Peers-1)
	checkNotUp(t, "the first and the last peer", d, api.MaxTime, 0, api.Peers-1)
}

func TestQueryUpAndDown(t *testing.T) {
	for peer := range api.Peers {
		others := slices.DeleteFunc([]int{0, 1, 2, 3, 4, 5}, func(other int) bool { return other == peer })
		d := diskWith(t, api.Record{Time: 1, Kind: api.Up, Peer: peer}, told(t, 2, peer, ten, 1), api.Record{Time: 3, Kind: api.Down, Peer: peer},
			told(t, 4, peer, ten, 2), api.Record{Time: 5, Kind: api.Up, Peer: peer}, told(t, 6, peer, tenOne, 3), api.Record{Time: 7, Kind: api.Up, Peer: peer},
			api.Record{Time: 8, Kind: api.Down, Peer: peer}, api.Record{Time: 8, Kind: api.Down, Peer: peer})
		checkNotUp(t, "before", d, 0, peer)
		checkQuery(t, "up", d, peer, 1)
		checkQuery(t, "a route", d, peer, 2, entry(t, ten, 1))
		checkNotUp(t, "down", d, 3, peer)
		checkNotUp(t, "a route of a peer that isn't up", d, 4, peer)
		checkQuery(t, "up again, without routes", d, peer, 5)
		checkQuery(t, "a route again", d, peer, 6, entry(t, tenOne, 3))
		checkQuery(t, "up while it is up", d, peer, 7)
		checkNotUp(t, "down at the end", d, 8, peer)
		for time := range 10 {
			checkNotUp(t, "another peer", d, time, others...)
		}
	}
}

func TestQueryOfPeersThatAreNotUp(t *testing.T) {
	d := diskWith(t, told(t, 1, 1, ten, 1), heard(1, announcing(t, 2, "", "10 0a 01")), heard(1, announcing(t, 2, "08 0a", "")),
		api.Record{Time: 2, Kind: api.Up, Peer: 2}, told(t, 2, 1, ten, 1), heard(2, announcing(t, 2, "", "10 0a 01")), api.Record{Time: 3, Kind: api.Up, Peer: 1})
	checkNotUp(t, "none up", d, 1, 0, 1, 2, 3, 4, 5)
	checkNotUp(t, "another up", d, 2, 0, 1, 3, 4, 5)
	checkQuery(t, "the other", d, 2, 2)
	checkQuery(t, "up behind them", d, 1, 3)
}

func TestQueryMessages(t *testing.T) {
	d := diskWith(t, head, upOne,
		heard(10, announcing(t, 1, "", "08 0a 10 0a 01")),
		heard(11, announcing(t, 2, "", "10 0a 01")),
		heard(12, announcing(t, 3, "08 0a", "20 01 02 03 04")),
		heard(13, announcing(t, 4, "10 0a 01", "10 0a 01")),
		heard(14, announcing(t, 5, "08 0b", "09 0a ff 09 0a 80")),
		heard(15, updatingHex(t, "", "40 01 01 09", "10 0a 01 08 0a")),
		heard(16, updatingHex(t, "", "", "")),
		heard(17, updatingHex(t, "20 01 02 03 04 09 0a ff", "", "")),
	)
	one, odd := entry(t, single, 3), entry(t, oddBits, 5)
	checkQuery(t, "before", d, 1, 9)
	checkQuery(t, "announced", d, 1, 10, entry(t, ten, 1), entry(t, tenOne, 1))
	checkQuery(t, "announced again", d, 1, 11, entry(t, ten, 1), entry(t, tenOne, 2))
	checkQuery(t, "withdrawn", d, 1, 12, one, entry(t, tenOne, 2))
	checkQuery(t, "withdrawn and announced", d, 1, 13, one, entry(t, tenOne, 4))
	checkQuery(t, "withdrawn that was not there", d, 1, 14, one, entry(t, tenOne, 4), odd)
	checkQuery(t, "spoilt", d, 1, 15, one, odd)
	checkQuery(t, "a change of nothing", d, 1, 16, one, odd)
	checkQuery(t, "all withdrawn", d, 1, 17)
	checkNotUp(t, "the other peers", d, 17, 0, 2, 3, 4, 5)
}

func TestQueryRoutes(t *testing.T) {
	d := diskWith(t, head, upOne, api.Record{Time: 5, Kind: api.Up, Peer: 2}, told(t, 5, 1, ten, 1), told(t, 5, 2, ten, 2), api.Record{Time: 5, Kind: api.Body},
		told(t, 6, 1, tenOne, 3), told(t, 7, 1, ten, 4), heard(8, announcing(t, 5, "10 0a 01", "")), heard(9, announcing(t, 6, "", "08 0a")))
	checkQuery(t, "two peers, one prefix", d, 1, 5, entry(t, ten, 1))
	checkQuery(t, "two peers, one prefix", d, 2, 5, entry(t, ten, 2))
	checkQuery(t, "behind the Body", d, 1, 6, entry(t, ten, 1), entry(t, tenOne, 3))
	checkQuery(t, "the same prefix", d, 1, 7, entry(t, ten, 4), entry(t, tenOne, 3))
	checkQuery(t, "withdrawn by a Message", d, 1, 8, entry(t, ten, 4))
	checkQuery(t, "announced by a Message", d, 1, 9, entry(t, ten, 6))
	checkQuery(t, "the other peer", d, 2, api.MaxTime, entry(t, ten, 2))
}

// Shuffled routes come in order by their addresses as numbers, and those of one address by their lengths.
func TestQueryOrder(t *testing.T) {
	want := prefixes{
		all, {Addr: 0, Len: 1}, {Addr: 0, Len: 32}, {Addr: 1, Len: 32}, {Addr: 9 << 24, Len: 30}, ten, {Addr: 10 << 24, Len: 9}, {Addr: 10 << 24, Len: 16},
		tenOne, oddBits, {Addr: 127 << 24, Len: 8}, {Addr: 1 << 31, Len: 1}, {Addr: 1 << 31, Len: 2}, {Addr: 200 << 24, Len: 7}, {Addr: api.MaxAddr - 1, Len: 31}, {Addr: api.MaxAddr, Len: 32},
	}
	l := []api.Record{head, upOne}
	var entries []api.Entry
	for i, p := range want {
		l = append(l, told(t, 5, 1, want[(i*7+3)%len(want)], 7))
		entries = append(entries, entry(t, p, 7))
	}
	d := diskWith(t, l...)
	for range 20 {
		checkQuery(t, "many routes", d, 1, 5, entries...)
	}
}

func TestQueryTimes(t *testing.T) {
	d := diskWith(t, upOne, told(t, 8, 1, ten, 1), told(t, 6, 1, ten, 2), told(t, 8, 1, tenOne, 3), told(t, 10, 1, ten, 4), told(t, 8, 1, ten, 5), told(t, 0, 1, single, 6),
		told(t, api.MaxTime, 1, all, 7))
	checkNotUp(t, "ahead of all", d, 0, 1)
	checkNotUp(t, "just ahead", d, 4, 1)
	checkQuery(t, "a time that is a record's", d, 1, 5)
	checkQuery(t, "a record whose time is not above, behind one whose is", d, 1, 7)
	checkQuery(t, "several of one time", d, 1, 8, entry(t, ten, 2), entry(t, tenOne, 3))
	checkQuery(t, "records of earlier times behind", d, 1, 9, entry(t, ten, 2), entry(t, tenOne, 3))
	behind := []api.Entry{entry(t, single, 6), entry(t, ten, 5), entry(t, tenOne, 3)}
	checkQuery(t, "all but the last time", d, 1, 10, behind...)
	checkQuery(t, "all but the last time", d, 1, api.MaxTime-1, behind...)
	checkQuery(t, "the last time", d, 1, api.MaxTime, append([]api.Entry{entry(t, all, 7)}, behind...)...)
	checkQuery(t, "time 0", diskWith(t, api.Record{Kind: api.Up}, api.Record{Time: 1, Kind: api.Down}), 0, 0)
}

func TestQueryTimesAcrossSegments(t *testing.T) {
	up := func(time, peer int) string { return logged(api.Record{Time: time, Kind: api.Up, Peer: peer}) }
	d := diskOf(t, 1000, content{"s0001": up(1, 0), "s0002": up(9, 1), "s0003": up(2, 2)})
	checkQuery(t, "ahead of the time above", d, 0, 5)
	checkNotUp(t, "a segment behind the time above", d, 8, 1, 2)
	checkQuery(t, "then", d, 2, 9)
}

func TestQueryHeadInTheMidst(t *testing.T) {
	d := diskWith(t, head, upOne, api.Record{Time: 5, Kind: api.Up, Peer: 4}, told(t, 5, 1, ten, 1), told(t, 5, 4, ten, 2), api.Record{Time: 6, Kind: api.Body},
		api.Record{Time: 7, Kind: api.Head}, api.Record{Time: 8, Kind: api.Up, Peer: 4}, told(t, 8, 1, ten, 3), told(t, 8, 4, tenOne, 4), api.Record{Time: 9, Kind: api.Body})
	checkQuery(t, "a Body does nothing", d, 1, 6, entry(t, ten, 1))
	checkQuery(t, "a Body does nothing", d, 4, 6, entry(t, ten, 2))
	checkNotUp(t, "a Head", d, 7, 0, 1, 2, 3, 4, 5)
	checkQuery(t, "behind the Head", d, 4, 8, entry(t, tenOne, 4))
	checkNotUp(t, "behind the Head", d, 9, 0, 1, 2, 3, 5)
}

// Each file lets one peer be up: so it is to be seen whether it is a segment.
func TestQuerySegments(t *testing.T) {
	up := logged(api.Record{Time: 1, Kind: api.Up, Peer: 3})
	for _, name := range []string{"s0001", "s0009", "s0010", "s0100", "s1000", "s9999", "s1234"} {
		checkQuery(t, name, diskOf(t, 100, content{name: up}), 3, 1)
	}
	for _, name := range []string{
		"s0000", "s", "s1", "s001", "s00001", "s00010", "s0001x", "xs0001", "0001", "00001", "S0001", "t0001", "s000a", "sa001", "s0x01", "s000/", "s000:", "s+001", "s-001", "s 001", "s001 ", "s1_00", "s1e10", "s0.01", "s\x00001",
		"s٣٤", "ſ001", "s000\xb1", "index", "tmp", "s0001\x00", "\x00s0001", "s0001s", "a", "s00", "ss0001",
	} {
		d := diskOf(t, 100, content{name: up})
		checkNotUp(t, name, d, 1, 0, 1, 2, 3, 4, 5)
		checkErrors(t, name, api.OK, d.Append("s0002", logged(api.Record{Time: 1, Kind: api.Up, Peer: 2})))
		checkQuery(t, name, d, 2, 1)
		checkNotUp(t, name, d, 1, 3)
	}
}

// The numbers of segments may leave gaps, and they tell the order, whichever was laid there first.
func TestQuerySegmentsInOrder(t *testing.T) {
	names := []string{"s9999", "s0010", "s0002", "s1000", "s0009", "s0101"}
	order := []string{"s0002", "s0009", "s0010", "s0101", "s1000", "s9999"}
	d := routelog.NewDisk(10000)
	for _, name := range names {
		i := slices.Index(order, name)
		l := []api.Record{told(t, 1, 1, ten, i)}
		if i == 0 {
			l = append([]api.Record{upOne}, l...)
			l[0].Time = 1
		}
		checkErrors(t, "a segment", api.OK, d.Append(name, logged(l...)))
	}
	checkQuery(t, "the last one tells", d, 1, 1, entry(t, ten, 5))
	for i := len(order) - 1; i > 0; i-- {
		checkErrors(t, "without the last", api.OK, d.Delete(order[i]))
		checkQuery(t, "without the last", d, 1, 1, entry(t, ten, i-1))
	}
	checkErrors(t, "another name", api.OK, d.Rename("s0002", "s0000"))
	checkNotUp(t, "none left", d, 1, 1)
}

// What is wrong in a segment ends that segment, and not the log.
func TestQueryTornSegments(t *testing.T) {
	first := logged(upOne, told(t, 6, 1, ten, 1))
	second := logged(told(t, 7, 1, tenOne, 2))
	wrong := logged(api.Record{Time: 1, Kind: 7})
	for _, torn := range []string{"", "torn", wrong, second[:len(second)-1], second[1:], strings.Repeat("\x00", 300), wrong + logged(told(t, 6, 1, single, 9), api.Record{Kind: api.Head})} {
		d := diskOf(t, 10000, content{"s0001": first + torn, "s0002": torn, "s0003": second + torn, "s0004": torn + torn, "s0005": logged(told(t, 8, 1, all, 3))})
		checkQuery(t, "the first", d, 1, 6, entry(t, ten, 1))
		want := []api.Entry{entry(t, ten, 1), entry(t, tenOne, 2)}
		checkQuery(t, "the third", d, 1, 7, want...)
		checkQuery(t, "the last", d, 1, 8, append([]api.Entry{entry(t, all, 3)}, want...)...)
	}
	cut := content{"s0001": first + second[:20], "s0002": second[20:]}
	checkQuery(t, "no record goes over from one segment to the next", diskOf(t, 10000, cut), 1, 7, entry(t, ten, 1))
}

func TestQueryChangesNoFile(t *testing.T) {
	files := content{"s0001": logged(upOne, told(t, 6, 1, ten, 1)) + "torn", "s0003": "torn", "index": "wrong", "tmp": "left", "a": ""}
	d := syncedDisk(t, files, 3)
	for _, peer := range []int{-1, 0, 1, api.Peers} {
		for _, time := range []int{-1, 0, 6, api.MaxTime, api.MaxTime + 1} {
			routelog.Query(d, peer, time)
		}
	}
	longer := content{}
	for name, b := range files {
		longer[name] = b + "+++"
	}
	checkFiles(t, "asked", d, longer)
	checkErrors(t, "Crash", api.OK, d.Crash(nil))
	checkFiles(t, "what is synced", d, files)
}

// A disk that is broken answers what is in its files, and asking it isn't one of the calls that it counts.
func TestQueryOfABrokenDisk(t *testing.T) {
	d := diskWith(t, upOne)
	checkErrors(t, "Break", api.OK, d.Break(1))
	for range 3 {
		checkQuery(t, "not yet broken", d, 1, 5)
	}
	checkErrors(t, "Append", api.OK, d.Append("s0001", logged(told(t, 6, 1, ten, 1))), d.Append("s0001", logged(told(t, 6, 1, tenOne, 1))), d.Delete("s0001"))
	checkQuery(t, "broken", d, 1, 6, entry(t, ten, 1))
	checkErrors(t, "Crash", api.OK, d.Crash([]int{len(logged(upOne))}))
	checkQuery(t, "crashed", d, 1, 6)
}

func TestQueryIsOfThen(t *testing.T) {
	d := diskWith(t, upOne, told(t, 5, 1, ten, 1))
	then, _, _ := routelog.Query(d, 1, 5)
	checkErrors(t, "Append", api.OK, d.Append("s0001", logged(told(t, 5, 1, ten, 2))))
	checkQuery(t, "now", d, 1, 5, entry(t, ten, 2))
	if !slices.Equal(then, []api.Entry{entry(t, ten, 1)}) {
		t.Errorf("what was told has become %x", then)
	}
}

func TestQueryAnswersNewMemory(t *testing.T) {
	d := diskWith(t, upOne, heard(5, announcing(t, 1, "", "08 0a 10 0a 01 20 01 02 03 04 00 09 0a 80")))
	want := []api.Entry{entry(t, all, 1), entry(t, single, 1), entry(t, ten, 1), entry(t, tenOne, 1), entry(t, oddBits, 1)}
	first, _, _ := routelog.Query(d, 1, 5)
	second, _, _ := routelog.Query(d, 1, 5)
	first = first[:cap(first)]
	for i := range first {
		first[i] = api.Entry{Addr: 77}
	}
	if !slices.Equal(second, want) {
		t.Errorf("two answers share memory: %x", second)
	}
	checkQuery(t, "an answer was changed", d, 1, 5, want...)
}

func TestQueryOfDisksApart(t *testing.T) {
	d, other := diskWith(t, upOne, told(t, 5, 1, ten, 1)), diskWith(t, upOne, told(t, 5, 1, ten, 2))
	checkQuery(t, "the one", d, 1, 5, entry(t, ten, 1))
	checkQuery(t, "the other", other, 1, 5, entry(t, ten, 2))
	checkErrors(t, "Delete", api.OK, d.Delete("s0001"))
	checkNotUp(t, "the one", d, 5, 1)
	checkQuery(t, "the other", other, 1, 5, entry(t, ten, 2))
}

// Whoever reads the log has ended when the call answers, also where most of the log is behind the time that was asked for.
func TestQueryLeavesNobodyBehind(t *testing.T) {
	var l []api.Record
	for i := range 200 {
		l = append(l, told(t, i, 1, ten, i))
	}
	d := diskOf(t, 100000, content{"s0001": logged(l...), "s0002": logged(l...)})
	before := runtime.NumGoroutine()
	for i := range 200 {
		routelog.Query(d, 1, i)
		routelog.Query(d, 1, -i)
	}
	for range 1000 {
		// One that has closed its channel may yet need a moment to be gone.
		if runtime.NumGoroutine() <= before {
			return
		}
		time.Sleep(time.Millisecond)
	}
	t.Errorf("%d are left, %d were there", runtime.NumGoroutine(), before)
}

func TestQueryAtOnce(t *testing.T) {
	d := diskWith(t, upOne, told(t, 5, 1, ten, 1), told(t, 6, 1, tenOne, 2))
	want := entry(t, ten, 1)
	done := make(chan bool)
	for range 8 {
		go func() {
			for range 50 {
				checkQuery(t, "several at once", d, 1, 5, want)
			}
			done <- true
		}()
	}
	for range 8 {
		<-done
	}
}
