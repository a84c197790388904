package filters

// codeBits is how long a code can be.
const codeBits = 15

// codes are what lengths make of symbols: a shorter code is ahead of a longer one, and of one length the lesser symbol's.
type codes struct {
	counts  [codeBits + 1]int // by length; of 0 none, as such a symbol has no code
	symbols []int             // in the order of their codes
}

func codesOf(lengths []int) codes {
	var c codes
	for _, length := range lengths {
		c.counts[length]++
	}
	c.counts[0] = 0
	var place [codeBits + 1]int
	for length := 1; length <= codeBits; length++ {
		place[length] = place[length-1] + c.counts[length-1]
	}
	c.symbols = make([]int, place[codeBits]+c.counts[codeBits])
	for symbol, length := range lengths {
		if length > 0 {
			c.symbols[place[length]] = symbol
			place[length]++
		}
	}
	return c
}

// fill tells whether not one more code could be, and there are not too many.
func (c *codes) fill() bool {
	free := 1
	for length := 1; length <= codeBits; length++ {
		free = 2*free - c.counts[length]
	}
	return free == 0
}

// few tells whether there is no code at all, or one alone of one bit: distances may do with that.
func (c *codes) few() bool {
	return len(c.symbols) == c.counts[1] && len(c.symbols) <= 1
}

// code is what a symbol is written as.
type code struct {
	value, length int
}

// bySymbol answers the codes of n symbols.
func (c *codes) bySymbol(n int) []code {
	table := make([]code, n)
	value, place := 0, 0
	for length := 1; length <= codeBits; length++ {
		value <<= 1
		for range c.counts[length] {
			table[c.symbols[place]] = code{value, length}
			value++
			place++
		}
	}
	return table
}
