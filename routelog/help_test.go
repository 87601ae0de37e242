package routelog_test

import (
	"encoding/hex"
	"strings"
	"testing"

	"routelog/api"
)

// The attributes that every announcement needs, as an update has them and as canonical text.
const (
	needed    = "40 01 01 00 40 02 00 40 03 04 01 02 03 04"
	canonical = "40 01 00 01 00 40 02 00 00 40 03 00 04 01 02 03 04"
)

var (
	ten     = api.Prefix{Addr: 10 << 24, Len: 8}
	tenOne  = api.Prefix{Addr: 10<<24 | 1<<16, Len: 16}
	all     = api.Prefix{}
	single  = api.Prefix{Addr: 0x01020304, Len: 32}
	oddBits = api.Prefix{Addr: 10<<24 | 128<<16, Len: 9}
)

// unhex answers bytes that are written in hexadecimal, with spaces between.
func unhex(t *testing.T, s string) string {
	t.Helper()
	b, err := hex.DecodeString(strings.ReplaceAll(s, " ", ""))
	if err != nil {
		t.Fatal(err)
	}
	return string(b)
}

func twoBytes(n int) string {
	return string([]byte{byte(n >> 8), byte(n)})
}

// framed answers a message of any type.
func framed(kind byte, content string) string {
	return strings.Repeat("\xff", 16) + twoBytes(19+len(content)) + string([]byte{kind}) + content
}

// updating answers an update of bytes that are withdrawn prefixes, attributes and announced prefixes.
func updating(withdrawn, attrs, announced string) string {
	return framed(api.Updating, twoBytes(len(withdrawn))+withdrawn+twoBytes(len(attrs))+attrs+announced)
}

// updatingHex is updating of bytes in hexadecimal.
func updatingHex(t *testing.T, withdrawn, attrs, announced string) string {
	t.Helper()
	return updating(unhex(t, withdrawn), unhex(t, attrs), unhex(t, announced))
}
