package text

import (
	"strconv"
	"strings"
	"testing"
)

func TestIsWhite(t *testing.T) {
	for b := range 256 {
		want := strings.Contains("\x00\t\n\f\r ", string([]byte{byte(b)}))
		if IsWhite(byte(b)) != want {
			t.Errorf("IsWhite(%d) = %v", b, !want)
		}
	}
}

func TestSkipWhite(t *testing.T) {
	for _, c := range []struct {
		data     string
		at, want int
	}{
		{"", 0, 0},
		{"a", 0, 0},
		{"a", 1, 1},
		{" a", 0, 1},
		{"\x00\t\n\f\r a ", 0, 6},
		{"a  b", 1, 3},
		{"a  ", 1, 3},
		{" \v ", 0, 1},
		{"%\n", 0, 0},
	} {
		if got := SkipWhite([]byte(c.data), c.at); got != c.want {
			t.Errorf("SkipWhite(%q, %d) = %d, want %d", c.data, c.at, got, c.want)
		}
	}
}

func TestHexDigit(t *testing.T) {
	for b := range 256 {
		value, ok := HexDigit(byte(b))
		want, err := strconv.ParseUint(string([]byte{byte(b)}), 16, 8)
		if ok != (err == nil) || uint64(value) != want {
			t.Errorf("HexDigit(%d) = %d, %v", b, value, ok)
		}
	}
}
