package filters

const sumModulus = 65521

// sum answers the four bytes behind the blocks, by which it is seen whether the right bytes came out.
func sum(data []byte) [4]byte {
	a, b := 1, 0
	for _, d := range data {
		a = (a + int(d)) % sumModulus
		b = (b + a) % sumModulus
	}
	return [4]byte{byte(b >> 8), byte(b), byte(a >> 8), byte(a)}
}
