// Package number asks whether numbers are where they must be.
package number

// Integer is every integer type, so that one question serves bytes, lengths and errors alike.
type Integer interface {
	~int | ~int8 | ~int16 | ~int32 | ~int64 |
		~uint | ~uint8 | ~uint16 | ~uint32 | ~uint64 | ~uintptr
}

// Within tells whether n is from least to most, both of them included.
func Within[T Integer](n, least, most T) bool {
	return least <= n && n <= most
}
