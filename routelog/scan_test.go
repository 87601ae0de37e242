package routelog_test

import (
	"math/rand"
	"slices"
	"strings"
	"testing"
	"unsafe"

	"routelog/api"
	"routelog/routelog"
)

// someRecords answers records of each kind, with the edges of what may be in them.
func someRecords(t *testing.T) []api.Record {
	t.Helper()
	attrs := unhex(t, canonical)
	return []api.Record{
		{Kind: api.Head},
		{Time: api.MaxTime, Kind: api.Head},
		{Time: 1, Kind: api.Up},
		{Time: 1 << 24, Kind: api.Up, Peer: api.Peers - 1},
		{Time: 0x01020304, Kind: api.Down, Peer: 3},
		{Time: 1, Kind: api.Down, Peer: api.Peers - 1},
		{Time: 1<<31 + 5, Kind: api.Route, Peer: 2, Body: routeBody(tenOne, attrs)},
		{Kind: api.Route, Body: routeBody(all, attrs)},
		{Kind: api.Route, Peer: api.Peers - 1, Body: routeBody(api.Prefix{Addr: api.MaxAddr, Len: 32}, attrs)},
		{Kind: api.Route, Body: routeBody(oddBits, attrs+unhex(t, "80 04 00 04 01 02 03 04 e0 63 00 01 07"))},
		{Time: 7, Kind: api.Message, Peer: 4, Body: updatingHex(t, "10 0a 01", needed, "08 0a")},
		{Time: 7, Kind: api.Message, Peer: api.Peers - 1, Body: updatingHex(t, "", "", "")},
		{Time: 7, Kind: api.Message, Body: updatingHex(t, "", "40 01 01 07", "08 0a")},
		{Time: 6, Kind: api.Body},
		{Time: api.MaxTime, Kind: api.Body},
	}
}

func TestScanExample(t *testing.T) {
	checkScan(t, "the example", summed(unhex(t, "00 00 00 01 05 00 00 00")), []api.Record{{Time: 1, Kind: api.Head}}, 12)
	checkScan(t, "another one, with its sum written out", unhex(t, "00 00 00 01 02 00 00 00 00 f2 4b 3e"), nil, 0)
	checkScan(t, "the sum begins behind the body", unhex(t, "00 00 00 01 02 00 00 00 f2 4b 3e 52"), []api.Record{{Time: 1, Kind: api.Up}}, 12)
}

func TestScanKinds(t *testing.T) {
	l := someRecords(t)
	for _, r := range l {
		checkScan(t, "alone", logged(r), []api.Record{r}, len(logged(r)))
	}
	for i := range l {
		checkScan(t, "some of them", logged(l[:i]...), l[:i], len(logged(l[:i]...)))
	}
	checkScan(t, "times need no order", logged(l[5], l[1], l[0], l[1]), []api.Record{l[5], l[1], l[0], l[1]}, len(logged(l[5], l[1], l[0], l[1])))
}

func TestScanOfNoRecord(t *testing.T) {
	good := someRecords(t)
	begin := logged(good...)
	checkScan(t, "nothing", "", nil, 0)
	for _, b := range []string{
		"\x00", "x", "torn", strings.Repeat("\x00", 11), strings.Repeat("\x00", 12), strings.Repeat("\xff", 11), strings.Repeat("\xff", 12),
		strings.Repeat("\x00", 5000), strings.Repeat("\xff", 70000), "123456789\xcb\xf4\x39\x26",
	} {
		checkScan(t, "no record", b, nil, 0)
		checkScan(t, "no record, and records behind it", b+begin, nil, 0)
		checkScan(t, "no record behind records", begin+b, good, len(begin))
		checkScan(t, "no record between", begin+b+"\xff"+begin, good, len(begin))
	}
}

// TestScanOfChangedBytes: each byte of a record is changed to each other one; that of its sum, too.
func TestScanOfChangedBytes(t *testing.T) {
	for _, r := range someRecords(t) {
		b := logged(r)
		behind := logged(api.Record{Kind: api.Up, Peer: 1})
		for i := range len(b) {
			for v := range 256 {
				if byte(v) != b[i] {
					changed := b[:i] + string([]byte{byte(v)}) + b[i+1:]
					checkScan(t, "a byte changed", behind+changed+behind, []api.Record{{Kind: api.Up, Peer: 1}}, len(behind))
				}
			}
		}
	}
}

func TestScanOfCutRecords(t *testing.T) {
	l := someRecords(t)
	b := logged(l...)
	whole, end := 0, len(logged(l[0]))
	for i := range len(b) + 1 {
		if i == end {
			whole++
			end = len(logged(l[:min(whole+1, len(l))]...))
		}
		checkScan(t, "cut", b[:i], l[:whole], len(logged(l[:whole]...)))
	}
	if whole != len(l) {
		t.Errorf("the test looked at %d records", whole)
	}
}

// checkNoRecord looks at bytes that have a right sum, and yet are no record.
func checkNoRecord(t *testing.T, what, bad string) {
	t.Helper()
	good := api.Record{Time: 5, Kind: api.Up, Peer: 1}
	b := logged(good)
	checkScan(t, what, bad, nil, 0)
	checkScan(t, what, bad+b, nil, 0)
	checkScan(t, what, b+b+bad+b, []api.Record{good, good}, 2*len(b))
}

func TestScanOfOtherKindsAndPeers(t *testing.T) {
	bodies := []string{"", "x", routeBody(ten, unhex(t, canonical)), updatingHex(t, "", needed, "08 0a")}
	for kind := range 256 {
		for _, body := range bodies {
			if kind < api.Message || kind > api.Body {
				checkNoRecord(t, "another kind", logged(api.Record{Time: 1, Kind: kind, Body: body}))
			}
		}
	}
	for peer := 1; peer < 256; peer++ {
		for _, r := range someRecords(t) {
			r.Peer = peer
			switch {
			case r.Kind == api.Head, r.Kind == api.Body, peer >= api.Peers:
				checkNoRecord(t, "another peer", logged(r))
			default:
				checkScan(t, "a peer", logged(r), []api.Record{r}, len(logged(r)))
			}
		}
	}
}

func TestScanOfWrongBodies(t *testing.T) {
	for _, r := range someRecords(t) {
		longer, shorter := r, r
		longer.Body += "\x00"
		checkNoRecord(t, "a byte behind the body", logged(longer))
		if r.Body != "" {
			shorter.Body = r.Body[:len(r.Body)-1]
			checkNoRecord(t, "a body without its last byte", logged(shorter))
			shorter.Body = ""
			checkNoRecord(t, "no body", logged(shorter))
		}
		for _, n := range []int{len(r.Body) - 1, len(r.Body) + 1, 65535} {
			if n >= 0 {
				checkNoRecord(t, "a length that is not the body's", summed(recordHead(r.Time, r.Kind, r.Peer, n)+r.Body))
			}
		}
	}
	for _, kind := range []int{api.Up, api.Down, api.Head, api.Body} {
		for _, body := range []string{"x", "\x00\x00\x00\x00", updatingHex(t, "", "", ""), routeBody(ten, unhex(t, canonical))} {
			checkNoRecord(t, "a body where there is none", logged(api.Record{Kind: kind, Body: body}))
		}
	}
}

func TestScanOfWrongMessages(t *testing.T) {
	whole := updatingHex(t, "", needed, "08 0a")
	for _, body := range []string{
		"", "x", whole[:len(whole)-1], whole + "x", whole + whole, whole[1:], "\xfe" + whole[1:], strings.Repeat("\xff", 16) + "\x00\x12\x02",
		framed(api.Opening, ""), framed(api.Notification, "\x01\x00"), framed(api.KeepAlive, ""), framed(api.KeepAlive, whole[19:]), framed(0, whole[19:]),
		framed(api.Updating, ""), framed(api.Updating, "\x00\x00\x00"), framed(api.Updating, "\x00\x00\x00\x00"+strings.Repeat("\x00", 178)),
		updatingHex(t, "21 01 02 03 04 05", "", ""), updatingHex(t, "08", "", ""), updatingHex(t, "", needed, "08"), updatingHex(t, "", needed, "21 01 02 03 04 05"),
		updatingHex(t, "", needed+"40 63 00", "08 0a"), updatingHex(t, "", "00 00 00", ""),
		routeBody(ten, unhex(t, canonical)),
	} {
		checkNoRecord(t, "a Message that may not be", logged(api.Record{Time: 1, Kind: api.Message, Body: body}))
	}
	// A spoilt one is one that Update takes, and so is the longest.
	for _, body := range []string{updatingHex(t, "", "40 01 01 09", "08 0a"), updatingHex(t, "", needed+"c0", "08 0a"), framed(api.Updating, "\x00\x00\x00\x00"+strings.Repeat("\x00", 177))} {
		r := api.Record{Time: 1, Kind: api.Message, Body: body}
		checkScan(t, "a Message", logged(r), []api.Record{r}, len(logged(r)))
	}
}

func TestScanOfWrongRoutes(t *testing.T) {
	attrs := unhex(t, canonical)
	for _, p := range []api.Prefix{
		{Addr: 0, Len: 33}, {Addr: 0, Len: 64}, {Addr: 0, Len: 255}, {Addr: api.MaxAddr, Len: 40},
		{Addr: 1, Len: 0}, {Addr: 1 << 31, Len: 0}, {Addr: 1 << 30, Len: 1}, {Addr: 10<<24 | 1<<16, Len: 8}, {Addr: 1, Len: 31}, {Addr: api.MaxAddr, Len: 31},
	} {
		checkNoRecord(t, "a Route of no prefix", logged(api.Record{Kind: api.Route, Body: routeBody(p, attrs)}))
	}
	for _, c := range uncanonical {
		checkNoRecord(t, c.what, logged(api.Record{Kind: api.Route, Body: routeBody(ten, unhex(t, c.attrs))}))
	}
	body := routeBody(ten, attrs)
	for i := range len(body) {
		checkNoRecord(t, "a Route that is cut", logged(api.Record{Kind: api.Route, Body: body[:i]}))
	}
	checkNoRecord(t, "a Route with a prefix of as many bytes as it needs", logged(api.Record{Kind: api.Route, Body: "\x08\x0a" + attrs}))
	checkNoRecord(t, "a Route that is an update", logged(api.Record{Kind: api.Route, Body: updatingHex(t, "", needed, "08 0a")}))
}

func TestScanOfRoutesOfEachLength(t *testing.T) {
	attrs := unhex(t, canonical)
	for n := range 33 {
		r := api.Record{Kind: api.Route, Body: routeBody(api.Prefix{Addr: api.MaxAddr >> (32 - n) << (32 - n), Len: n}, attrs)}
		checkScan(t, "a Route", logged(r), []api.Record{r}, len(logged(r)))
	}
	for _, size := range []int{0, 255, 256, 65535 - 5 - len(attrs) - 4} {
		r := api.Record{Kind: api.Route, Body: routeBody(ten, attrs+"\xc0\x63"+twoBytes(size)+strings.Repeat("v", size))}
		checkScan(t, "a long Route", logged(r, r), []api.Record{r, r}, 2*len(logged(r)))
	}
}

func TestScanAnswersNewMemory(t *testing.T) {
	want := someRecords(t)
	bytes := []byte(logged(want...))
	first, _ := routelog.Scan(unsafe.String(&bytes[0], len(bytes)))
	second, _ := routelog.Scan(unsafe.String(&bytes[0], len(bytes)))
	clear(bytes)
	if !slices.Equal(first, want) {
		t.Errorf("the answer has memory of what was handed in: %x", first)
	}
	first = first[:cap(first)]
	for i := range first {
		first[i] = api.Record{Time: 77}
	}
	if !slices.Equal(second, want) {
		t.Errorf("two answers share memory: %x", second)
	}
}

// TestScanOfAnyBytes: pieces of records are laid one behind the other in any order, and some bytes are changed.
func TestScanOfAnyBytes(t *testing.T) {
	l := someRecords(t)
	random := rand.New(rand.NewSource(1))
	for range 3000 {
		b := ""
		for range random.Intn(6) {
			piece := logged(l[random.Intn(len(l))])
			if random.Intn(4) == 0 {
				piece = piece[random.Intn(len(piece)):]
			}
			b += piece
		}
		checkAnyScan(t, b)
		if b != "" {
			i := random.Intn(len(b))
			checkAnyScan(t, b[:i]+string([]byte{byte(random.Intn(256))})+b[i+1:])
		}
	}
}

// checkAnyScan checks what holds of the answers to all bytes: the records are what stands at the beginning.
func checkAnyScan(t *testing.T, b string) {
	t.Helper()
	l, n := routelog.Scan(b)
	if n < 0 || n > len(b) || logged(l...) != b[:max(0, min(n, len(b)))] {
		t.Fatalf("Scan(%x) = %x, %d", b, l, n)
	}
	checkScan(t, "what was found", b[:n], l, n)
	checkScan(t, "what was left", b[n:], nil, 0)
}
