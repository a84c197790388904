// Package text knows the bytes that files and filters are made of.
package text

import (
	"strconv"
	"strings"

	"folio/number"
)

const hexDigits = "0123456789abcdef"

// IsWhite tells whether b may stand between what has a meaning.
func IsWhite(b byte) bool {
	switch b {
	case 0, 9, 10, 12, 13, 32:
		return true
	}
	return false
}

// IsMark tells whether b ends what stands ahead of it, as white does, but has a meaning of its own.
func IsMark(b byte) bool {
	switch b {
	case '(', ')', '<', '>', '[', ']', '{', '}', '/', '%':
		return true
	}
	return false
}

// IsPlain tells whether b may be a part of a word.
func IsPlain(b byte) bool {
	return !IsWhite(b) && !IsMark(b)
}

// InName tells whether b may be a part of a name.
func InName(b byte) bool {
	return IsPlain(b) && number.Within(b, '!', '~')
}

// SkipWhite answers the first place from at on that is not white, or the end.
func SkipWhite(data []byte, at int) int {
look:
	if at < len(data) && IsWhite(data[at]) {
		at++
		goto look
	}
	return at
}

// SkipLine answers the first place from at on that is a part of a line's end, or the end.
func SkipLine(data []byte, at int) int {
	for at < len(data) && data[at] != '\n' && data[at] != '\r' {
		at++
	}
	return at
}

// HexDigit answers what a hexadecimal digit of either case counts, and whether b is one.
func HexDigit(b byte) (byte, bool) {
	switch {
	case number.Within(b, '0', '9'):
		return b - '0', true
	case number.Within(b, 'a', 'f'):
		return b - 'a' + 10, true
	case number.Within(b, 'A', 'F'):
		return b - 'A' + 10, true
	}
	return 0, false
}

// AppendHex puts b behind out as two hexadecimal digits.
func AppendHex(out []byte, b byte) []byte {
	return append(out, hexDigits[b>>4], hexDigits[b&15])
}

// Padded answers n's digits, with as many 0s ahead as it takes to be so many.
func Padded(n, digits int) string {
	bare := strconv.Itoa(n)
	return strings.Repeat("0", max(0, digits-len(bare))) + bare
}
