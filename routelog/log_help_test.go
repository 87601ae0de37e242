package routelog_test

import (
	"hash/crc32"
	"slices"
	"testing"

	"routelog/api"
	"routelog/routelog"
)

func fourBytes(n int) string {
	return twoBytes(n>>16) + twoBytes(n)
}

// summed answers bytes with their sum behind them.
func summed(b string) string {
	return b + fourBytes(int(crc32.ChecksumIEEE([]byte(b))))
}

// recordHead answers what stands ahead of a record's body of n bytes.
func recordHead(time, kind, peer, n int) string {
	return fourBytes(time) + string([]byte{byte(kind), byte(peer)}) + twoBytes(n)
}

// logged answers records as bytes, one behind the other.
func logged(l ...api.Record) string {
	s := ""
	for _, r := range l {
		s += summed(recordHead(r.Time, r.Kind, r.Peer, len(r.Body)) + r.Body)
	}
	return s
}

// routeBody answers the body of a Route.
func routeBody(p api.Prefix, attrs string) string {
	return string([]byte{byte(p.Len)}) + fourBytes(p.Addr) + attrs
}

// withHop answers canonical attributes, and the same as an update has them, whose value of type 3 ends with the byte n.
func withHop(t *testing.T, n int) (attrs, update string) {
	t.Helper()
	last := string([]byte{byte(n)})
	return unhex(t, canonical[:len(canonical)-2]) + last, unhex(t, needed[:len(needed)-2]) + last
}

// announcing answers an update that announces prefixes in bytes, with the attributes of withHop.
func announcing(t *testing.T, n int, withdrawn, announced string) string {
	t.Helper()
	_, attrs := withHop(t, n)
	return updating(unhex(t, withdrawn), attrs, unhex(t, announced))
}

// entry answers a route with the attributes of withHop.
func entry(t *testing.T, p api.Prefix, n int) api.Entry {
	t.Helper()
	attrs, _ := withHop(t, n)
	return api.Entry{Addr: p.Addr, Len: p.Len, Attrs: attrs}
}

// checkScan looks at what Scan finds in bytes.
func checkScan(t *testing.T, what, b string, want []api.Record, wantBytes int) {
	t.Helper()
	got, n := routelog.Scan(b)
	if !slices.Equal(got, want) || n != wantBytes {
		t.Errorf("%s: Scan(%x) = %x, %d, want %x, %d", what, b, got, n, want, wantBytes)
	}
}

// checkQuery looks at the routes of a peer that is up.
func checkQuery(t *testing.T, what string, d *routelog.Disk, peer, time int, want ...api.Entry) {
	t.Helper()
	got, up, e := routelog.Query(d, peer, time)
	if !slices.Equal(got, want) || !up || e != api.OK {
		t.Errorf("%s: Query(%d, %d) = %x, %v, %d, want %x", what, peer, time, got, up, e, want)
	}
}

// checkNotUp looks at peers that are not up.
func checkNotUp(t *testing.T, what string, d *routelog.Disk, time int, peers ...int) {
	t.Helper()
	for _, peer := range peers {
		if l, up, e := routelog.Query(d, peer, time); len(l) != 0 || up || e != api.OK {
			t.Errorf("%s: Query(%d, %d) = %x, %v, %d, want a peer that is not up", what, peer, time, l, up, e)
		}
	}
}

// checkQueryError looks at a call that is refused.
func checkQueryError(t *testing.T, d *routelog.Disk, peer, time int, want api.Errno) {
	t.Helper()
	if l, up, e := routelog.Query(d, peer, time); len(l) != 0 || up || e != want {
		t.Errorf("Query(%d, %d) = %x, %v, %d, want %d", peer, time, l, up, e, want)
	}
}
