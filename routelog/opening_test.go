package routelog_test

import (
	"strings"
	"testing"

	"routelog/api"
	"routelog/routelog"
)

// checkOpening looks at what a content of an opening leads to, of a connection that is waiting.
func checkOpening(t *testing.T, what, content string, inOrder bool) {
	t.Helper()
	d := routelog.NewDisk(plenty)
	c := opened(t, d)
	connect(t, c, 2)
	if !inOrder {
		receive(t, c, 2, framed(api.Opening, content)+alive, notice(noticeOpening))
		checkClosed(t, what, c, 2)
		checkLog(t, what, d)
		return
	}
	receive(t, c, 2, framed(api.Opening, content), alive)
	checkHasNot(t, what, c, 2)
	receive(t, c, 2, alive, "")
	checkLog(t, what, d, up(0, 2))
}

func TestOpeningParameters(t *testing.T) {
	list := field(2, wide)
	other, short, long := field(1, "\x00\x01\x00\x01"), field(65, "\x00\x00\x09"), field(65, "\x00\x00\x00\x09\x00")
	for _, s := range []struct {
		what, parameters string
		inOrder          bool
	}{
		{"the capability", list, true},
		{"no parameters", "", false},
		{"no capabilities", field(2, ""), false},
		{"in another parameter", field(1, wide), false},
		{"in two others", field(0, wide) + field(3, wide), false},
		{"as a parameter", wide, false},
		{"another number", field(2, field(65, "\xff\xff\xff\xff")), true},
		{"another capability", field(2, other), false},
		{"of another code", field(2, field(66, "\x00\x00\x00\x09")+field(64, "\x00\x00\x00\x09")), false},
		{"behind another", field(2, other+wide), true},
		{"ahead of another", field(2, wide+other), true},
		{"behind an empty one", field(2, field(0, "")+wide), true},
		{"behind empty ones of the code", field(2, field(65, "")+field(65, "")+wide), true},
		{"with 3 bytes", field(2, short), false},
		{"with 5 bytes", field(2, long), false},
		{"with none", field(2, field(65, "")), false},
		{"with 3 bytes, and with 4", field(2, short+wide), true},
		{"with 4 bytes, and with 5", field(2, wide+long), true},
		{"with 5, 4 and 3 bytes", field(2, long+wide+short), true},
		{"with 3 bytes and with 5", field(2, short+long), false},
		{"twice", field(2, wide+wide), true},
		{"in two parameters", list + list, true},
		{"with 3 bytes, and with 4 in another", field(2, short) + list, true},
		{"with 4 bytes, and with 3 in another", list + field(2, short), true},
		{"with 3 bytes, and with 5 in another", field(2, short) + field(2, long), false},
		{"with 4 bytes, and another in another", list + field(2, other), true},
		{"another, and with 4 bytes in another", field(2, other) + list, true},
		{"behind a parameter without capabilities", field(2, "") + list, true},
		{"ahead of one", list + field(2, ""), true},
		{"among other parameters", field(1, "any") + list + field(255, "") + field(0, "\x41\x04"), true},
		{"others hold anything", list + field(7, "\x41\xff"), true},
		{"others that are no lists", field(3, "\x41") + field(1, strings.Repeat("\xff", 100)) + list, true},
		{"all the room", list + field(9, string(make([]byte, 161))), true},
		{"all the room in it", field(2, wide+field(9, string(make([]byte, 161)))), true},
		{"all the room without it", field(2, field(9, string(make([]byte, 167)))), false},
		{"a parameter's type alone", list + "\x02", false},
		{"another's type alone", list + "\x01", false},
		{"a parameter cut short", list + "\x02\x01", false},
		{"another cut short", list + "\x01\x03ab", false},
		{"another far too long", list + "\x01\xff", false},
		{"the parameter a byte too long", "\x02\x07" + wide, false},
		{"the parameter a byte too short", "\x02\x05" + wide, false},
		{"the parameter a byte too short, and that byte one more", "\x02\x06" + wide + "\x00", false},
		{"a capability's code alone", field(2, wide+"\x41"), false},
		{"a capability's code alone ahead of it", field(2, "\x41") + list, false},
		{"a capability cut short", field(2, wide+"\x41\x04\x00\x00\x00"), false},
		{"a capability cut short in another", list + field(2, "\x41\x04\x00\x00\x00"), false},
		{"another capability cut short", field(2, wide+"\x01\x02a"), false},
		{"another capability cut short ahead of it", field(2, "\x01\x02a") + list, false},
		{"a capability that goes over the end of its parameter", field(2, "\x41\x04\x00\x00") + field(0, "\x09"), false},
		{"a byte behind it", field(2, wide+"\x00"), false},
		{"a byte behind the parameters", list + "\x00", false},
	} {
		checkOpening(t, s.what, introducing(90, s.parameters), s.inOrder)
	}
}

func TestOpeningHolds(t *testing.T) {
	for _, hold := range []int{0, 1, 2, 3, 4, 89, 90, 91, 255, 256, 257, 258, 259, 512, 65535} {
		checkOpening(t, "a hold", introducing(hold, field(2, wide)), hold == 0 || hold > 2)
	}
}

// Each byte ahead of the parameters, changed to each other one: of these matter the first one, the hold, and how many bytes come.
func TestOpeningBytes(t *testing.T) {
	whole := introducing(90, field(2, wide))
	for i := range 10 {
		for v := range 256 {
			b := string([]byte{byte(v)})
			inOrder := true
			switch i {
			case 0, 9:
				inOrder = b == whole[i:i+1]
			case 4:
				inOrder = v != 1 && v != 2
			}
			checkOpening(t, "a byte is changed", whole[:i]+b+whole[i+1:], inOrder)
		}
	}
}

// An opening that ends too early, wherever, is not in order; nor is one with bytes behind its end.
func TestOpeningCut(t *testing.T) {
	for _, parameters := range []string{field(2, wide), field(1, "any") + field(2, wide) + field(2, ""), ""} {
		whole := introducing(90, parameters)
		for i := range whole {
			checkOpening(t, "cut", whole[:i], false)
		}
		for _, more := range []string{"\x00", "\x04", field(2, wide), whole} {
			checkOpening(t, "more", whole+more, false)
		}
	}
}

// What the collector says of itself is in order, for another one too.
func TestOpeningOfItsOwn(t *testing.T) {
	checkOpening(t, "its own", hello(t)[19:], true)
}
