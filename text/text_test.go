package text

import (
	"encoding/hex"
	"strconv"
	"strings"
	"testing"
)

func TestIsWhite(t *testing.T) {
	for b := range 256 {
		want := strings.Contains("\x00\t\n\f\r ", string([]byte{byte(b)}))
		if IsWhite(byte(b)) != want {
			t.Errorf("IsWhite(%d) = %v", b, !want)
		}
	}
}

func TestIsMark(t *testing.T) {
	for b := range 256 {
		one := string([]byte{byte(b)})
		mark, white := strings.Contains("()<>[]{}/%", one), strings.Contains("\x00\t\n\f\r ", one)
		if IsMark(byte(b)) != mark {
			t.Errorf("IsMark(%d) = %v", b, !mark)
		}
		if plain := !mark && !white; IsPlain(byte(b)) != plain {
			t.Errorf("IsPlain(%d) = %v", b, !plain)
		}
		if in := !mark && b > 32 && b < 127; InName(byte(b)) != in {
			t.Errorf("InName(%d) = %v", b, !in)
		}
	}
}

func TestSkipWhite(t *testing.T) {
	for _, c := range []struct {
		data     string
		at, want int
	}{
		{"", 0, 0},
		{"a", 0, 0},
		{"a", 1, 1},
		{" a", 0, 1},
		{"\x00\t\n\f\r a ", 0, 6},
		{"a  b", 1, 3},
		{"a  ", 1, 3},
		{" \v ", 0, 1},
		{"%\n", 0, 0},
	} {
		if got := SkipWhite([]byte(c.data), c.at); got != c.want {
			t.Errorf("SkipWhite(%q, %d) = %d, want %d", c.data, c.at, got, c.want)
		}
	}
}

func TestSkipLine(t *testing.T) {
	for _, c := range []struct {
		data     string
		at, want int
	}{
		{"", 0, 0},
		{"a", 0, 1},
		{"a", 1, 1},
		{"a\n", 0, 1},
		{"a\r\n", 0, 1},
		{"\n", 0, 0},
		{"\r", 0, 0},
		{"% \x00\f\v\xff%\nb", 0, 7},
		{"a\nb\nc", 2, 3},
	} {
		if got := SkipLine([]byte(c.data), c.at); got != c.want {
			t.Errorf("SkipLine(%q, %d) = %d, want %d", c.data, c.at, got, c.want)
		}
	}
}

func TestPadded(t *testing.T) {
	for _, c := range []struct {
		n, digits int
		want      string
	}{
		{0, 0, "0"}, {0, 1, "0"}, {0, 2, "00"}, {7, 3, "007"}, {1234, 3, "1234"}, {1234, 4, "1234"}, {199999, 10, "0000199999"},
	} {
		if got := Padded(c.n, c.digits); got != c.want {
			t.Errorf("Padded(%d, %d) = %q, want %q", c.n, c.digits, got, c.want)
		}
	}
}

func TestHexDigit(t *testing.T) {
	for b := range 256 {
		value, ok := HexDigit(byte(b))
		want, err := strconv.ParseUint(string([]byte{byte(b)}), 16, 8)
		if ok != (err == nil) || uint64(value) != want {
			t.Errorf("HexDigit(%d) = %d, %v", b, value, ok)
		}
	}
}

func TestAppendHex(t *testing.T) {
	for b := range 256 {
		want := "ahead" + hex.EncodeToString([]byte{byte(b)})
		if got := AppendHex([]byte("ahead"), byte(b)); string(got) != want {
			t.Errorf("AppendHex(%d) = %q, want %q", b, got, want)
		}
	}
}
