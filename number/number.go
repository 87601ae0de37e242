// Package number: numbers in bytes, the greatest byte first.
package number

// Read answers the number that the bytes of b make up.
func Read(b string) int {
	n := 0
	for i := range len(b) {
		n = n<<8 | int(b[i])
	}
	return n
}

// Write answers the last width bytes of n.
func Write(n, width int) string {
	b := make([]byte, width)
	for i := width - 1; i >= 0; i-- {
		b[i] = byte(n)
		n >>= 8
	}
	return string(b)
}
