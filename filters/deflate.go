package filters

const (
	headFirst  = 0x78 // the widest window
	headSecond = 0x9c
	farthest   = 1 << (windowMost + windowLeast)
)

func encodeFlate(data []byte) []byte {
	blocks := coded(data)
	if plain := stored(data); len(plain) < len(blocks) {
		blocks = plain
	}
	ends := sum(data)
	out := append([]byte{headFirst, headSecond}, blocks...)
	return append(out, ends[:]...)
}

// stored answers blocks that hold the data as it is: what can't be packed grows by little in them.
func stored(data []byte) []byte {
	var w bitWriter
	for len(data) > storedMost {
		w.storedBlock(0, data[:storedMost])
		data = data[storedMost:]
	}
	w.storedBlock(1, data)
	return w.out
}

func (w *bitWriter) storedBlock(last int, data []byte) {
	w.bits(last, 1)
	w.bits(blockStored, 2)
	w.align()
	w.bits(len(data), 16)
	w.bits(storedMost-len(data), 16)
	w.out = append(w.out, data...)
}

// coded answers one block of the fixed codes.
func coded(data []byte) []byte {
	d := newDeflater(data)
	d.bits(1, 1)
	d.bits(blockFixed, 2)
	for d.at < len(data) {
		d.part()
	}
	d.code(d.symbols[endSymbol])
	return d.out
}

// deflater looks for bytes that have been there already.
type deflater struct {
	bitWriter
	data      []byte
	at        int
	stood     map[[leastLength]byte]int // where the bytes that begin like the key stood last
	symbols   []code
	distances []code
}

func newDeflater(data []byte) *deflater {
	fixed := fixedCodes()
	return &deflater{
		data:      data,
		stood:     make(map[[leastLength]byte]int),
		symbols:   fixed.symbols.bySymbol(fixedSymbols),
		distances: fixed.distances.bySymbol(fixedDistances),
	}
}

// part puts the next byte, or as many as stood already.
func (d *deflater) part() {
	length, distance := d.match()
	if length == 0 {
		d.code(d.symbols[d.data[d.at]])
		d.step(1)
		return
	}
	symbol := lengthSymbol(length)
	d.code(d.symbols[symbol])
	d.within(length, lengthSpan(symbol))
	symbol = distanceSymbol(distance)
	d.code(d.distances[symbol])
	d.within(distance, distanceSpan(symbol))
	d.step(length)
}

// within puts which number of a span is meant.
func (d *deflater) within(value int, s span) {
	d.bits(value-s.least, s.bits)
}

// match answers how many of the next bytes stood already, and how far back; 0, if too few did or too far.
func (d *deflater) match() (length, distance int) {
	if !d.hasKey() {
		return 0, 0
	}
	place, ok := d.stood[d.key()]
	if !ok || d.at-place > farthest {
		return 0, 0
	}
	length = leastLength
	for length < greatestLength && d.at+length < len(d.data) && d.data[d.at+length] == d.data[place+length] {
		length++
	}
	return length, d.at - place
}

// step goes n bytes on and keeps where each of them stood.
func (d *deflater) step(n int) {
	for range n {
		if d.hasKey() {
			d.stood[d.key()] = d.at
		}
		d.at++
	}
}

func (d *deflater) hasKey() bool {
	return leastLength <= len(d.data)-d.at
}

func (d *deflater) key() [leastLength]byte {
	return [leastLength]byte(d.data[d.at:])
}
