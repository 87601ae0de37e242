package routelog_test

import (
	"math/rand"
	"strings"
	"testing"

	"routelog/api"
	"routelog/routelog"
)

// heardIn answers what is said to bytes that a connection of peer 1 hears in pieces, from its beginning on, and the disk with its log.
// A piece may come behind the one that ends the connection: it changes nothing.
func heardIn(t *testing.T, pieces ...string) (said string, connected bool, d *routelog.Disk) {
	t.Helper()
	d = routelog.NewDisk(plenty)
	c := opened(t, d)
	runs(t, c, 0)
	connect(t, c, 1)
	for _, b := range pieces {
		answer, e := c.Receive(1, b)
		said += answer
		if e != api.OK && (e != api.ErrClosed || answer != "") {
			t.Errorf("Receive(1, %x) = %x, %d", b, answer, e)
		}
		checkAgrees(t, "in pieces", d, c)
	}
	_, e := c.Receive(1, "")
	checkConnected(t, "the other one", c, 0)
	return said, e == api.OK, d
}

// checkPieces looks whether it is as well to hear bytes in these pieces as in one.
func checkPieces(t *testing.T, pieces ...string) {
	t.Helper()
	want, wantConnected, whole := heardIn(t, strings.Join(pieces, ""))
	said, connected, d := heardIn(t, pieces...)
	if said != want || connected != wantConnected {
		t.Errorf("in the pieces %x: said %x, a connection: %v, want %x, %v", pieces, said, connected, want, wantConnected)
	}
	checkFiles(t, "in pieces", d, filesOf(whole))
}

// inPieces cuts bytes in pieces of so many.
func inPieces(b string, size int) []string {
	var l []string
	for len(b) > size {
		l = append(l, b[:size])
		b = b[size:]
	}
	return append(l, b)
}

// How the bytes of a connection are cut changes nothing (P20).
func TestReceivePieces(t *testing.T) {
	u, w := announcing(t, 1, "", "08 0a 10 0a 01"), announcing(t, 2, "08 0a", "20 01 02 03 04")
	begin := greeting(90) + alive
	for _, b := range []string{
		begin + u + alive + w + u + w,
		begin + u + notice(6) + u,
		begin + u + "\xff\xff\x00" + u,
		begin + u + alive[:16] + "\x00\x12" + u,
		begin + u + alive[:16] + "\x00\xc9" + u,
		begin + u + framed(api.KeepAlive, "x") + u,
		begin + u + updatingHex(t, "21", "", "") + u,
		begin + u + announcingBytes(t, "", routesFrom(0, 12)) + u,
		greeting(90) + u + alive,
		greeting(2) + alive,
		alive + greeting(90),
		framed(api.Opening, introducing(30, field(1, strings.Repeat("\xff", 150))+field(2, wide))) + alive + w,
	} {
		for size := 1; size < len(b); size++ {
			checkPieces(t, inPieces(b, size)...)
		}
		for i := range b {
			checkPieces(t, b[:i], b[i:])
			checkPieces(t, b[:i], "", b[i:], "")
		}
	}
}

// someMessages are what anyBytes is made of.
func someMessages(t *testing.T) []string {
	t.Helper()
	u, w := announcing(t, 1, "", "08 0a 10 0a 01"), announcing(t, 2, "08 0a", "20 01 02 03 04")
	return []string{
		alive, alive, alive, u, u, w, w, announcingBytes(t, "", routesFrom(0, 9)), announcingBytes(t, "", routesFrom(6, 5)), announcingBytes(t, routesFrom(0, 9), ""),
		updatingHex(t, "", "40 01 01 09", "08 0a 08 0b"), updatingHex(t, "", "", ""), greeting(3), notice(6), framed(9, "any"), "wrong", "\xff",
	}
}

// anyBytes answers messages in any order, with a byte changed here and there, mostly behind those that lead to the last stage.
func anyBytes(r *rand.Rand, messages []string) string {
	b := ""
	if r.Intn(8) > 0 {
		b = greeting(90) + alive
	}
	for range r.Intn(9) {
		m := []byte(messages[r.Intn(len(messages))])
		if r.Intn(9) == 0 {
			m[r.Intn(len(m))] = byte(r.Intn(256))
		}
		b += string(m)
	}
	return b
}

// Any bytes, cut anyhow: the answers are the same, and what the disk tells is what the collector has, and can be told again (P20, P22).
func TestReceiveAnyBytes(t *testing.T) {
	messages := someMessages(t)
	r := rand.New(rand.NewSource(1))
	n := 0
	for range 2000 {
		b := anyBytes(r, messages)
		checkPieces(t, inPieces(b, 1+r.Intn(40))...)
		i := r.Intn(len(b) + 1)
		checkPieces(t, b[:i], b[i:])
		_, _, d := heardIn(t, b)
		if routes, isUp, _ := routelog.Query(d, 1, 0); isUp {
			checkRetold(t, "any bytes", d, 1, 0, asTold)
			if len(routes) > 1 {
				n++
			}
		}
	}
	if n < 100 {
		t.Errorf("only %d times that there were routes: too few for this test", n)
	}
}
