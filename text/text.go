// Package text knows the bytes that files and filters are made of.
package text

import "folio/number"

// IsWhite tells whether b may stand between what has a meaning.
func IsWhite(b byte) bool {
	switch b {
	case 0, 9, 10, 12, 13, 32:
		return true
	}
	return false
}

// SkipWhite answers the first place from at on that is not white, or the end.
func SkipWhite(data []byte, at int) int {
look:
	if at < len(data) && IsWhite(data[at]) {
		at++
		goto look
	}
	return at
}

// HexDigit answers what a hexadecimal digit of either case counts, and whether b is one.
func HexDigit(b byte) (byte, bool) {
	switch {
	case number.Within(b, '0', '9'):
		return b - '0', true
	case number.Within(b, 'a', 'f'):
		return b - 'a' + 10, true
	case number.Within(b, 'A', 'F'):
		return b - 'A' + 10, true
	}
	return 0, false
}
