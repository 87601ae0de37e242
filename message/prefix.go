package message

import (
	"routelog/api"
	"routelog/number"
)

const (
	addressBits = 32
	addressSize = 4
)

// arePrefixes tells whether each of l is a prefix.
func arePrefixes(l ...api.Prefix) bool {
	for _, p := range l {
		if p.Len < 0 || p.Len > addressBits || p.Addr < 0 || p.Addr > api.MaxAddr || p.Addr != firstBits(p.Addr, p.Len) {
			return false
		}
	}
	return true
}

// firstBits answers an address of which the bits behind the n-th are 0.
func firstBits(address, n int) int {
	behind := addressBits - n
	return address >> behind << behind
}

// bytesFor answers how many bytes n bits need.
func bytesFor(n int) int {
	return (n + 7) / 8
}

// readPrefixes reads prefixes one behind the other to the end of b; false, if b is not that.
func readPrefixes(b string) ([]api.Prefix, bool) {
	var l []api.Prefix
	for b != "" {
		n := int(b[0])
		end := 1 + bytesFor(n)
		if n > addressBits || len(b) < end {
			return nil, false
		}
		// An address is written without its last bytes: they are 0.
		address := number.Read(b[1:end]) << (addressBits - 8*bytesFor(n))
		l = append(l, api.Prefix{Addr: firstBits(address, n), Len: n})
		b = b[end:]
	}
	return l, true
}

// writePrefixes answers the bytes of prefixes one behind the other.
func writePrefixes(l ...api.Prefix) string {
	var b []byte
	for _, p := range l {
		b = append(b, byte(p.Len))
		b = append(b, number.Write(p.Addr, addressSize)[:bytesFor(p.Len)]...)
	}
	return string(b)
}
