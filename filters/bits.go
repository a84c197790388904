package filters

import "folio/api"

const byteBits = 8

// bitReader takes the bits of a reader's bytes, from the lowest of each byte on.
type bitReader struct {
	*reader
	held byte // what is left of the byte that was begun
	left int  // how many bits that is
}

func (r *bitReader) bit() int {
	if r.left == 0 {
		r.held, r.left = r.next(), byteBits
	}
	bit := int(r.held & 1)
	r.held >>= 1
	r.left--
	return bit
}

// bits takes a number of n bits, the lowest first.
func (r *bitReader) bits(n int) int {
	value := 0
	for i := range n {
		value |= r.bit() << i
	}
	return value
}

// align leaves out what is left of the byte that was begun.
func (r *bitReader) align() {
	r.left = 0
}

// symbol takes a code, the highest bit first, and answers whose it is.
func (r *bitReader) symbol(c *codes) int {
	code, first, place := 0, 0, 0
	for length := 1; length <= codeBits; length++ {
		code = code<<1 | r.bit()
		first <<= 1
		count := c.counts[length]
		if code < first+count {
			return c.symbols[place+code-first]
		}
		first += count
		place += count
	}
	// Distances need not fill their codes, so that bits can be no one's.
	panic(api.ErrData)
}

// bitWriter puts bits into bytes, from the lowest of each byte on.
type bitWriter struct {
	out  []byte
	used int // how many bits of the last byte are taken; 0: all of them
}

func (w *bitWriter) bit(bit int) {
	if w.used == 0 {
		w.out = append(w.out, 0)
	}
	w.out[len(w.out)-1] |= byte(bit << w.used)
	w.used = (w.used + 1) % byteBits
}

// bits puts a number of n bits, the lowest first.
func (w *bitWriter) bits(value, n int) {
	for i := range n {
		w.bit(value >> i & 1)
	}
}

// align leaves what is left of the last byte 0.
func (w *bitWriter) align() {
	w.used = 0
}

// code puts a code, the highest bit first.
func (w *bitWriter) code(c code) {
	for i := c.length - 1; i >= 0; i-- {
		w.bit(c.value >> i & 1)
	}
}
