package routelog_test

import (
	"slices"
	"strings"
	"testing"

	"routelog/api"
	"routelog/routelog"
)

// checkEnds looks at bytes that end a connection in a stage: what is said, what is written, and that nothing is heard any more.
func checkEnds(t *testing.T, what string, stage int, b, want string) {
	t.Helper()
	what = stages[stage].name + ", " + what
	for _, behind := range []string{"", alive, greeting(90) + alive, "wrong", notice(6), "\xff"} {
		d := routelog.NewDisk(plenty)
		c := opened(t, d)
		runs(t, c, 0)
		bring(t, c, 1, stage)
		tick(t, c, 7)
		receive(t, c, 1, b+behind, want)
		checkClosed(t, what, c, 1)
		checkHasNot(t, what, c, 1)
		log := slices.Concat([]api.Record{up(0, 0)}, upAt(0, 1, stage), downFrom(7, 1, stage))
		checkLog(t, what, d, log...)
		checkHas(t, what, c, 0)
		runs(t, c, 1)
		checkLog(t, what+", and again", d, append(log, up(7, 1))...)
	}
}

// checkStays looks at messages that leave a connection in its stage, without a word.
func checkStays(t *testing.T, what string, stage int, b string, written ...api.Record) {
	t.Helper()
	what = stages[stage].name + ", " + what
	d := routelog.NewDisk(plenty)
	c := opened(t, d)
	bring(t, c, 1, stage)
	tick(t, c, 7)
	receive(t, c, 1, b, "")
	checkConnected(t, what, c, 1)
	checkLog(t, what, d, append(upAt(0, 1, stage), written...)...)
	if stage == running {
		receive(t, c, 1, alive, "")
	}
}

// From nothing to routes, and back.
func TestReceive(t *testing.T) {
	u, w := announcing(t, 1, "", "10 0a 01 08 0a"), announcing(t, 2, "08 0a", "20 01 02 03 04")
	for peer := range api.Sessions {
		d := routelog.NewDisk(plenty)
		c := opened(t, d)
		connect(t, c, peer)
		receive(t, c, peer, greeting(90), alive)
		checkLog(t, "confirming", d)
		checkHasNot(t, "confirming", c, 0, 1, 2, 3, 4, 5)
		tick(t, c, 1)
		receive(t, c, peer, alive, "")
		log := []api.Record{up(1, peer)}
		checkLog(t, "running", d, log...)
		checkHas(t, "running", c, peer)
		tick(t, c, 2)
		receive(t, c, peer, u, "")
		log = append(log, heardFrom(2, peer, u))
		checkLog(t, "an update", d, log...)
		checkHas(t, "an update", c, peer, entry(t, ten, 1), entry(t, tenOne, 1))
		receive(t, c, peer, alive, "")
		receive(t, c, peer, alive+w+alive, "")
		log = append(log, heardFrom(2, peer, w))
		checkLog(t, "another", d, log...)
		checkHas(t, "another", c, peer, entry(t, single, 2), entry(t, tenOne, 1))
		tick(t, c, 3)
		receive(t, c, peer, notice(6), "")
		checkLog(t, "the end", d, append(log, down(3, peer))...)
		checkHasNot(t, "the end", c, 0, 1, 2, 3, 4, 5)
		checkClosed(t, "the end", c, peer)
		checkQuery(t, "before", d, peer, 2, entry(t, single, 2), entry(t, tenOne, 1))
	}
}

// Messages of each type, with and without content, in each stage.
func TestReceiveTypes(t *testing.T) {
	u, refused := announcing(t, 1, "", "08 0a"), updatingHex(t, "21", "", "")
	for stage, s := range stages {
		for kind := range 256 {
			for _, body := range []string{"", "\x00", "\x02\x00", "any content", strings.Repeat("\xff", api.MaxMessage-19), greeting(90)[19:], u[19:], refused[19:]} {
				m := framed(byte(kind), body)
				greets, updates, keeps := m == greeting(90), m == u, m == alive
				switch {
				case kind == api.Notification:
					checkEnds(t, "a Notification", stage, m, "")
				case s.name == "waiting" && greets, s.name == "confirming" && keeps:
					// These lead to the next stage.
				case s.name == "waiting" && kind == api.Opening:
					checkEnds(t, "a wrong opening", stage, m, notice(noticeOpening))
				case s.name == "running" && keeps:
					checkStays(t, "a KeepAlive", stage, m)
				case s.name == "running" && updates:
					checkStays(t, "an update", stage, m, heardFrom(7, 1, m))
				case s.name == "running" && kind == api.Updating:
					checkEnds(t, "a wrong update", stage, m, notice(noticeUpdate))
				default:
					checkEnds(t, "a wrong type", stage, m, notice(noticeType))
				}
			}
		}
	}
}

// Bytes that are no message, in each stage, and as soon as that is to be seen.
func TestReceiveNoMessage(t *testing.T) {
	mark := strings.Repeat("\xff", 16)
	var wrong []string
	for i := range mark {
		wrong = append(wrong, mark[:i]+"\x00", mark[:i]+"\xfe", mark[:i]+"\x04"+mark)
	}
	for _, n := range []int{0, 1, 17, 18, api.MaxMessage + 1, api.MaxMessage + 2, 255, 256, 256 + 19, 19 << 8, 65535} {
		wrong = append(wrong, mark+twoBytes(n), mark+twoBytes(n)+string(make([]byte, 300)))
	}
	for stage := range stages {
		for _, b := range wrong {
			checkEnds(t, "no message", stage, b, notice(noticeNoMessage))
		}
	}
	checkEnds(t, "behind a message", running, alive+"x", notice(noticeNoMessage))
	checkEnds(t, "behind two", running, alive+alive+alive[:17]+"\x12", notice(noticeNoMessage))
}

// In one piece: what is said stands in order, the notice last.
func TestReceiveSaysInOrder(t *testing.T) {
	u := announcing(t, 1, "", "08 0a")
	for _, s := range []struct {
		what, b, want string
		log           []api.Record
	}{
		{"a wrong type behind the opening", greeting(90) + u, alive + notice(noticeType), nil},
		{"two openings", greeting(90) + greeting(90), alive + notice(noticeType), nil},
		{"no message behind the opening", greeting(90) + "x", alive + notice(noticeNoMessage), nil},
		{"a notification behind the opening", greeting(90) + notice(2) + alive, alive, nil},
		{"an opening behind all", greeting(90) + alive + greeting(90), alive + notice(noticeType), []api.Record{up(0, 2), down(0, 2)}},
		{"a KeepAlive with content", greeting(90) + alive + u + framed(api.KeepAlive, "x") + u, alive + notice(noticeType), []api.Record{up(0, 2), heardFrom(0, 2, u), down(0, 2)}},
		{"a part of an update", greeting(90) + alive + u + u[:len(u)-1], alive, []api.Record{up(0, 2), heardFrom(0, 2, u)}},
		{"no message", greeting(90) + alive + u + "x" + u, alive + notice(noticeNoMessage), []api.Record{up(0, 2), heardFrom(0, 2, u), down(0, 2)}},
		{"a notification", greeting(90) + alive + u + notice(6) + u, alive, []api.Record{up(0, 2), heardFrom(0, 2, u), down(0, 2)}},
		{"no end", greeting(90) + alive + u + alive + u + alive, alive, []api.Record{up(0, 2), heardFrom(0, 2, u), heardFrom(0, 2, u)}},
	} {
		d := routelog.NewDisk(plenty)
		c := opened(t, d)
		connect(t, c, 2)
		receive(t, c, 2, s.b, s.want)
		checkLog(t, s.what, d, s.log...)
	}
}

// A message is taken as soon as it is whole, and not sooner.
func TestReceiveWhole(t *testing.T) {
	u := announcing(t, 1, "", "08 0a 10 0a 01")
	d := routelog.NewDisk(plenty)
	c := opened(t, d)
	connect(t, c, 3)
	said := ""
	time := 0
	log := []api.Record{}
	for _, m := range []string{greeting(90), alive, u, alive, u} {
		for i := range m {
			time++
			tick(t, c, time)
			checkLog(t, "not whole yet", d, log...)
			answer, e := c.Receive(3, m[i:i+1])
			checkErrors(t, "byte by byte", api.OK, e)
			if i < len(m)-1 && answer != "" {
				t.Errorf("byte %d of %x: said %x", i, m, answer)
			}
			said += answer
		}
		switch {
		case m == u:
			log = append(log, heardFrom(time, 3, u))
		case m == alive && len(log) == 0:
			log = append(log, up(time, 3))
		}
	}
	checkLog(t, "byte by byte", d, log...)
	if said != alive {
		t.Errorf("said %x", said)
	}
	checkHas(t, "byte by byte", c, 3, entry(t, ten, 1), entry(t, tenOne, 1))
}

// Updates that Update refuses end the connection; one that is spoilt, and one of nothing, do not.
func TestReceiveUpdates(t *testing.T) {
	u := announcing(t, 1, "", "08 0a 10 0a 01")
	for _, wrong := range []string{framed(api.Updating, ""), framed(api.Updating, "\x00\x00\x00"), framed(api.Updating, "\x00\x01\x00\x00"), updatingHex(t, "21", "", ""), updatingHex(t, "08", "", ""), updatingHex(t, "", needed, "10 0a"),
		updatingHex(t, "", "40 63 00", ""), updatingHex(t, "", needed+"40 63 00", "08 0a"), updatingHex(t, "", "40 01 01 09 00 63 00", "08 0a")} {
		d := routelog.NewDisk(plenty)
		c := opened(t, d)
		runs(t, c, 0, 1)
		receive(t, c, 1, u+wrong+u, notice(noticeUpdate))
		checkClosed(t, "refused", c, 1)
		checkConnected(t, "the other one", c, 0)
		checkLog(t, "refused", d, up(0, 0), up(0, 1), heardFrom(0, 1, u), down(0, 1))
	}
	d := routelog.NewDisk(plenty)
	c := opened(t, d)
	spoilt, nothing := updatingHex(t, "", "40 01 01 09", "08 0a 08 0b"), updatingHex(t, "", "", "")
	runs(t, c, 1)
	receive(t, c, 1, u+spoilt+nothing, "")
	checkLog(t, "spoilt", d, up(0, 1), heardFrom(0, 1, u), heardFrom(0, 1, spoilt), heardFrom(0, 1, nothing))
	checkHas(t, "spoilt", c, 1, entry(t, tenOne, 1))
}

// A peer may have MaxRoutes routes behind an update, and one more ends its connection.
func TestReceiveMaxRoutes(t *testing.T) {
	for _, s := range routeTales(t) {
		d := routelog.NewDisk(plenty)
		c := opened(t, d)
		runs(t, c, 2, 1)
		log := []api.Record{up(0, 2), up(0, 1)}
		for i, m := range s.updates {
			want := ""
			log = append(log, heardFrom(0, 2, m))
			if s.refused && i == len(s.updates)-1 {
				want = notice(noticeTooManyRoutes)
				log[len(log)-1] = down(0, 2)
			}
			receive(t, c, 2, m, want)
		}
		checkSegment(t, s.what, d, log...)
		if l, isUp, _ := c.Routes(2); len(l) != s.left || isUp == s.refused {
			t.Errorf("%s: %d routes, %v, want %d", s.what, len(l), isUp, s.left)
		}
		if s.refused {
			checkClosed(t, s.what, c, 2)
		} else {
			checkConnected(t, s.what, c, 2)
		}
		checkHas(t, "the other one", c, 1)
	}
}

// The bytes that a caller hands in are its own: what is behind them in its text is of no matter, and no answer is changed later.
func TestReceiveTexts(t *testing.T) {
	u := announcing(t, 1, "", "08 0a")
	memory := []byte("ahead" + greeting(90) + alive + u + "behind")
	text := string(memory)
	d := routelog.NewDisk(plenty)
	c := opened(t, d)
	first, _ := c.Connect(0)
	said, e := c.Receive(0, text[5:len(text)-6])
	if said != alive || first != hello(t) || e != api.OK || text != string(memory) {
		t.Errorf("Receive = %x, %d; the text is %x", said, e, text)
	}
	receive(t, c, 0, notice(6), "")
	if said != alive || first != hello(t) {
		t.Errorf("what was told has become %x, %x", said, first)
	}
	checkLog(t, "a piece of a text", d, up(0, 0), heardFrom(0, 0, u), down(0, 0))
}
