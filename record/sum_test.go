package record

import (
	"hash/crc32"
	"testing"
)

func TestSum(t *testing.T) {
	for _, c := range []struct {
		b    string
		want int
	}{
		{"", 0}, {"123456789", 0xcbf43926}, {"\x00", 0xd202ef8d}, {"\xff", 0xff000000}, {"\xff\xff\xff\xff", 0xffffffff},
	} {
		if got := sum(c.b); got != c.want {
			t.Errorf("the sum of %x = %08x, want %08x", c.b, got, c.want)
		}
	}
	var all []byte
	for i := range 1000 {
		all = append(all, byte(i*i+i>>3))
		if got, want := sum(string(all)), int(crc32.ChecksumIEEE(all)); got != want {
			t.Fatalf("the sum of %d bytes = %08x, want %08x", len(all), got, want)
		}
	}
}
