package filters

import "folio/text"

const hexEnd = '>'

func encodeHex(data []byte) []byte {
	out := make([]byte, 0, 2*len(data)+1)
	for _, b := range data {
		out = text.AppendHex(out, b)
	}
	return append(out, hexEnd)
}

func (r *reader) decodeHex() {
	for r.hexPair() {
	}
	r.skipWhite()
	r.end()
}

// hexPair reads one part and tells whether another may follow.
func (r *reader) hexPair() bool {
	first := r.nextInk()
	if first == hexEnd {
		return false
	}
	high := hexValue(first)
	second := r.nextInk()
	if second == hexEnd {
		r.put(high << 4)
		return false
	}
	r.put(high<<4 | hexValue(second))
	return true
}

func hexValue(b byte) byte {
	value, ok := text.HexDigit(b)
	must(ok)
	return value
}
