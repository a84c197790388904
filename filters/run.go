package filters

const (
	runEnd = 128
	runMax = 128
)

func encodeRun(data []byte) []byte {
	var out []byte
	for len(data) > 0 {
		n := sameAhead(data)
		if n > 1 {
			out = append(out, byte(257-n), data[0])
		} else {
			n = mixedAhead(data)
			out = append(out, byte(n-1))
			out = append(out, data[:n]...)
		}
		data = data[n:]
	}
	return append(out, runEnd)
}

// sameAhead counts the bytes at the beginning that are like the first, as far as one run goes.
func sameAhead(data []byte) int {
	n := 1
	for n < len(data) && n < runMax && data[n] == data[0] {
		n++
	}
	return n
}

// mixedAhead counts the bytes ahead of the first two that are the same, as far as one run goes.
func mixedAhead(data []byte) int {
	n := 0
	for n < len(data) && n < runMax && !pairAt(data, n) {
		n++
	}
	return n
}

func pairAt(data []byte, at int) bool {
	return at+1 < len(data) && data[at] == data[at+1]
}

func (r *reader) decodeRun() {
	for r.run() {
	}
	r.end()
}

// run reads one part and tells whether another may follow.
func (r *reader) run() bool {
	n := r.next()
	switch {
	case n == runEnd:
		return false
	case n < runEnd:
		r.put(r.take(int(n) + 1)...)
	default:
		r.repeat(r.next(), 257-int(n))
	}
	return true
}
