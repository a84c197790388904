package filters

import "folio/number"

const (
	flateMethod = 8
	windowMost  = 7 // in the first byte's upper bits: a power of 2, less windowLeast
	windowLeast = 8
	headDivisor = 31
	headPreset  = 32 // the bit that would ask for bytes known beforehand

	storedMost = 65535

	extraMost      = 29 // how many symbols, or distances, there may be above the least
	leastSymbols   = 257
	leastDistances = 1
	leastOrdered   = 4

	lengthAhead    = 16
	lengthZero     = 17
	lengthZeroMore = 18
)

// lengthOrder is the order in which the lengths of the codes for lengths stand.
var lengthOrder = [...]int{16, 17, 18, 0, 8, 7, 9, 6, 10, 5, 11, 4, 12, 3, 13, 2, 14, 1, 15}

// inflater goes through what filter 4 has packed.
type inflater struct {
	bitReader
	window int
	fixed  blockCodes // made once, as there can be a block every ten bits
}

func (r *reader) decodeFlate() {
	f := &inflater{bitReader: bitReader{reader: r}, fixed: fixedCodes()}
	f.head()
	for f.block() {
	}
	f.align()
	must([4]byte(f.take(4)) == sum(f.out))
	f.end()
}

func (f *inflater) head() {
	first, second := int(f.next()), int(f.next())
	must(first&15 == flateMethod)
	must(number.Within(first>>4, 0, windowMost))
	must((first<<8|second)%headDivisor == 0)
	must(second&headPreset == 0)
	f.window = 1 << (first>>4 + windowLeast)
}

// block reads one block and tells whether another must follow.
func (f *inflater) block() bool {
	last := f.bit() == 1
	switch f.bits(2) {
	case blockStored:
		f.stored()
	case blockFixed:
		f.coded(&f.fixed)
	case blockOwn:
		own := f.ownCodes()
		f.coded(&own)
	default:
		must(false)
	}
	return !last
}

func (f *inflater) stored() {
	f.align()
	n, rest := f.bits(16), f.bits(16)
	must(rest == storedMost-n)
	f.put(f.take(n)...)
}

func (f *inflater) coded(c *blockCodes) {
	for f.part(c) {
	}
}

// part reads one part and tells whether another must follow.
func (f *inflater) part(c *blockCodes) bool {
	symbol := f.symbol(&c.symbols)
	switch {
	case symbol < endSymbol:
		f.put(byte(symbol))
	case symbol == endSymbol:
		return false
	default:
		must(number.Within(symbol, firstLength, lastLength))
		length := f.within(lengthSpan(symbol))
		symbol = f.symbol(&c.distances)
		must(number.Within(symbol, 0, lastDistance))
		f.again(length, f.within(distanceSpan(symbol)))
	}
	return true
}

// within reads which number of a span is meant.
func (f *inflater) within(s span) int {
	return s.least + f.bits(s.bits)
}

// again puts out what came out that far back. That may reach into what it puts out itself.
func (f *inflater) again(length, distance int) {
	must(number.Within(distance, 1, min(len(f.out), f.window)))
	f.room(length)
	for range length {
		f.out = append(f.out, f.out[len(f.out)-distance])
	}
}

// ownCodes reads the codes that a block brings with it.
func (f *inflater) ownCodes() blockCodes {
	a, b, c := f.bits(5), f.bits(5), f.bits(4)
	must(number.Within(a, 0, extraMost) && number.Within(b, 0, extraMost))
	symbols, distances := leastSymbols+a, leastDistances+b
	lengths := f.lengths(leastOrdered+c, symbols+distances)
	must(lengths[endSymbol] > 0)
	own := blockCodes{codesOf(lengths[:symbols]), codesOf(lengths[symbols:])}
	must(own.symbols.fill())
	must(own.distances.fill() || own.distances.few())
	return own
}

// lengths reads n lengths, by codes of which so many lengths are told.
func (f *inflater) lengths(told, n int) []int {
	var ordered [len(lengthOrder)]int
	for i := range told {
		ordered[lengthOrder[i]] = f.bits(3)
	}
	c := codesOf(ordered[:])
	must(c.fill())
	all := make([]int, 0, n) // all at once, as a file's streams can mean millions of blocks
	for len(all) < n {
		all = f.moreLengths(all, &c)
	}
	must(len(all) == n)
	return all
}

// moreLengths reads one symbol of the codes for lengths and appends what it means.
func (f *inflater) moreLengths(all []int, c *codes) []int {
	length, times := 0, 1
	switch symbol := f.symbol(c); symbol {
	case lengthAhead:
		must(len(all) > 0)
		length, times = all[len(all)-1], 3+f.bits(2)
	case lengthZero:
		times = 3 + f.bits(3)
	case lengthZeroMore:
		times = 11 + f.bits(7)
	default:
		length = symbol
	}
	for range times {
		all = append(all, length)
	}
	return all
}
