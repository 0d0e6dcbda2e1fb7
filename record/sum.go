package record

// turnedPolynomial is 04C11DB7 with its bits turned round: so the bits of each byte and of the sum need not be turned one by one.
const turnedPolynomial = 0xedb88320

// sum is the usual one of 32 bits. It tells any change of up to 32 bits that stand together.
func sum(bytes string) uint32 {
	rest := ^uint32(0)
	for i := range len(bytes) {
		rest ^= uint32(bytes[i])
		for range 8 {
			rest = divideOnce(rest)
		}
	}
	return ^rest
}

func divideOnce(rest uint32) uint32 {
	if rest&1 == 0 {
		return rest >> 1
	}
	return rest>>1 ^ turnedPolynomial
}
