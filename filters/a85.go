package filters

import "folio/number"

const (
	a85Base  = 85
	a85First = '!'
	a85Last  = 'u'
	a85Zeros = 'z'
	a85End   = "~>"

	greatest32 = 1<<32 - 1
)

func encodeA85(data []byte) []byte {
	var out []byte
	for len(data) > 0 {
		var group [4]byte
		n := copy(group[:], data)
		out = appendGroup(out, group, n)
		data = data[n:]
	}
	return append(out, a85End...)
}

// appendGroup appends the first n bytes of a group; those behind them are 0.
func appendGroup(out []byte, group [4]byte, n int) []byte {
	if n == len(group) && group == [4]byte{} {
		return append(out, a85Zeros)
	}
	digits := a85Digits(group)
	return append(out, digits[:n+1]...)
}

func a85Digits(group [4]byte) [5]byte {
	n := uint32(group[0])<<24 | uint32(group[1])<<16 | uint32(group[2])<<8 | uint32(group[3])
	var digits [5]byte
	for i := 4; i >= 0; i-- {
		digits[i] = a85First + byte(n%a85Base)
		n /= a85Base
	}
	return digits
}

func (r *reader) decodeA85() {
	for r.a85Group() {
	}
	r.skipWhite()
	r.end()
}

// a85Group reads one part and tells whether another may follow.
func (r *reader) a85Group() bool {
	var digits [5]byte
	for n := range digits {
		b := r.nextInk()
		if b == a85End[0] {
			must(r.next() == a85End[1])
			r.putShort(digits, n)
			return false
		}
		if b == a85Zeros && n == 0 {
			r.put(0, 0, 0, 0)
			return true
		}
		must(number.Within(b, a85First, a85Last))
		digits[n] = b
	}
	group := a85Bytes(digits)
	r.put(group[:]...)
	return true
}

// putShort puts out what the last n digits mean, fewer than a whole group.
func (r *reader) putShort(digits [5]byte, n int) {
	if n == 0 {
		return
	}
	must(n > 1)
	for i := n; i < len(digits); i++ {
		digits[i] = a85Last
	}
	group := a85Bytes(digits)
	r.put(group[:n-1]...)
}

// a85Bytes counts in 64 bits, as five digits can mean more than 32 bits hold.
func a85Bytes(digits [5]byte) [4]byte {
	var n uint64
	for _, d := range digits {
		n = n*a85Base + uint64(d-a85First)
	}
	must(number.Within(n, 0, greatest32))
	return [4]byte{byte(n >> 24), byte(n >> 16), byte(n >> 8), byte(n)}
}
