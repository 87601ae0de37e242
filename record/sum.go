package record

// polynomial is 04C11DB7 with its bits turned round: so bytes needn't be turned round one by one.
const polynomial = 0xedb88320

// sum answers the sum of 32 bits of these bytes.
func sum(b string) int {
	s := ^uint32(0)
	for i := range len(b) {
		s ^= uint32(b[i])
		for range 8 {
			s = s>>1 ^ polynomial&-(s&1)
		}
	}
	return int(^s)
}
