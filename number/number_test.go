package number

import "testing"

func TestNumbers(t *testing.T) {
	for _, c := range []struct {
		n int
		b string
	}{
		{0, ""}, {0, "\x00"}, {255, "\xff"}, {1, "\x00\x01"}, {258, "\x01\x02"}, {65535, "\xff\xff"}, {0x01020304, "\x01\x02\x03\x04"}, {4294967295, "\xff\xff\xff\xff"},
	} {
		if got := Read(c.b); got != c.n {
			t.Errorf("Read(%x) = %d, want %d", c.b, got, c.n)
		}
		if got := Write(c.n, len(c.b)); got != c.b {
			t.Errorf("Write(%d, %d) = %x, want %x", c.n, len(c.b), got, c.b)
		}
	}
	if got := Write(0x010203, 2); got != "\x02\x03" {
		t.Errorf("the last bytes: %x", got)
	}
}
