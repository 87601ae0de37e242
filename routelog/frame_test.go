package routelog_test

import (
	"strings"
	"testing"

	"routelog/api"
	"routelog/routelog"
)

type frameCase struct {
	what, b string
	n, kind int
	e       api.Errno
}

func checkFrame(t *testing.T, c frameCase) {
	t.Helper()
	n, kind, e := routelog.Frame(c.b)
	if n != c.n || kind != c.kind || e != c.e {
		t.Errorf("%s: Frame(%x) = %d, %d, %d, want %d, %d, %d", c.what, c.b, n, kind, e, c.n, c.kind, c.e)
	}
}

func TestFrameExamples(t *testing.T) {
	m := strings.Repeat("\xff", 16)
	for _, c := range []frameCase{
		{"nothing", "", 0, 0, api.OK},
		{"two bytes of the mark", "\xff\xff", 0, 0, api.OK},
		{"another second byte", "\xff\x00", 0, 0, api.ErrFrame},
		{"the mark alone", m, 0, 0, api.OK},
		{"half a length", m + "\x00", 0, 0, api.OK},
		{"half a length that can't be begun so", m + "\xff", 0, 0, api.OK},
		{"no type yet", m + "\x00\x13", 0, 0, api.OK},
		{"the least message", m + "\x00\x13\x04", 19, api.KeepAlive, api.OK},
		{"a message and more", m + "\x00\x13\x04" + m + "\x00\x00", 19, api.KeepAlive, api.OK},
		{"a message and what is none", m + "\x00\x13\x02abc", 19, api.Updating, api.OK},
		{"a length below", m + "\x00\x12", 0, 0, api.ErrFrame},
		{"a length of 0, with more", m + "\x00\x00\x04abc", 0, 0, api.ErrFrame},
		{"content that is not whole", m + "\x00\x15\x02a", 0, 0, api.OK},
		{"content that is whole", m + "\x00\x15\x02ab", 21, api.Updating, api.OK},
		{"text", "hello", 0, 0, api.ErrFrame},
	} {
		checkFrame(t, c)
	}
}

func TestFrameMark(t *testing.T) {
	whole := framed(api.KeepAlive, "")
	for i := range 16 {
		for v := range 255 {
			b := whole[:i] + string([]byte{byte(v)})
			checkFrame(t, frameCase{"a wrong byte at the end", b, 0, 0, api.ErrFrame})
			checkFrame(t, frameCase{"a wrong byte within", b + whole[i+1:], 0, 0, api.ErrFrame})
		}
	}
}

func TestFrameLengths(t *testing.T) {
	mark := strings.Repeat("\xff", 16)
	for n := range 1 << 16 {
		head := mark + twoBytes(n)
		if n < 19 || n > api.MaxMessage {
			checkFrame(t, frameCase{"a length that may not be", head, 0, 0, api.ErrFrame})
			continue
		}
		whole := head + strings.Repeat("\x01", n-18)
		checkFrame(t, frameCase{"a length alone", head, 0, 0, api.OK})
		checkFrame(t, frameCase{"a byte missing", whole[:n-1], 0, 0, api.OK})
		checkFrame(t, frameCase{"whole", whole, n, 1, api.OK})
		checkFrame(t, frameCase{"whole, and more", whole + "\x00", n, 1, api.OK})
	}
}

func TestFrameTypes(t *testing.T) {
	for kind := range 256 {
		checkFrame(t, frameCase{"any type", framed(byte(kind), "x"), 20, kind, api.OK})
	}
}

func TestFrameOfEachBeginning(t *testing.T) {
	whole := framed(200, strings.Repeat("y", api.MaxMessage-19))
	for i := range len(whole) {
		checkFrame(t, frameCase{"a beginning", whole[:i], 0, 0, api.OK})
	}
	checkFrame(t, frameCase{"the longest", whole, api.MaxMessage, 200, api.OK})
}
