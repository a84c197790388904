package filters

// What the symbols of blocks mean.
const (
	blockStored = 0
	blockFixed  = 1
	blockOwn    = 2

	endSymbol   = 256
	firstLength = 257
	lastLength  = 285

	leastLength    = 3
	greatestLength = 258

	lastDistance = 29

	fixedSymbols   = 288
	fixedDistances = 32
)

// blockCodes are the codes of one block.
type blockCodes struct {
	symbols, distances codes
}

func fixedCodes() blockCodes {
	symbols := make([]int, fixedSymbols)
	for symbol := range symbols {
		switch {
		case symbol <= 143:
			symbols[symbol] = 8
		case symbol <= 255:
			symbols[symbol] = 9
		case symbol <= 279:
			symbols[symbol] = 7
		default:
			symbols[symbol] = 8
		}
	}
	distances := make([]int, fixedDistances)
	for symbol := range distances {
		distances[symbol] = 5
	}
	return blockCodes{codesOf(symbols), codesOf(distances)}
}

// span is what a symbol stands for: the least number, or what so many bits more tell above it.
type span struct {
	least, bits int
}

// lengthSpan trusts that the symbol is a length's: four symbols have the same number of bits, each time twice as far apart.
func lengthSpan(symbol int) span {
	n := symbol - firstLength
	switch {
	case symbol == lastLength:
		return span{greatestLength, 0}
	case n < 8:
		return span{leastLength + n, 0}
	}
	bits := n/4 - 1
	return span{leastLength + (4+n%4)<<bits, bits}
}

// distanceSpan is like lengthSpan, but of two symbols.
func distanceSpan(symbol int) span {
	if symbol < 4 {
		return span{1 + symbol, 0}
	}
	bits := symbol/2 - 1
	return span{1 + (2+symbol%2)<<bits, bits}
}

// lengthSymbol answers the last symbol that can stand for a length: 258 has one of its own, without bits.
func lengthSymbol(length int) int {
	symbol := lastLength
	for lengthSpan(symbol).least > length {
		symbol--
	}
	return symbol
}

func distanceSymbol(distance int) int {
	symbol := lastDistance
	for distanceSpan(symbol).least > distance {
		symbol--
	}
	return symbol
}
