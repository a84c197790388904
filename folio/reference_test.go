package folio_test

import (
	"encoding/hex"
	"math/big"
	"regexp"
	"strings"
	"testing"

	"folio/api"
	"folio/folio"
)

// A part as the document's words cut it: what comes out of it, and how many bytes it is long.
// Where none fits, the data can't be at that place.
type part struct {
	out  string
	long int
	last bool
}

const (
	whiteRule = `[\x00\t\n\f\r ]*`
	hexRule   = whiteRule + `[0-9a-fA-F]`
	a85Rule   = whiteRule + `[!-u]`
)

var (
	hexPair  = regexp.MustCompile(`^` + hexRule + hexRule)
	hexLast  = regexp.MustCompile(`^(?:` + hexRule + `)?` + whiteRule + `>`)
	a85Zero  = regexp.MustCompile(`^` + whiteRule + `z`)
	a85Five  = regexp.MustCompile(`^(?:` + a85Rule + `){5}`)
	a85Last  = regexp.MustCompile(`^(?:` + a85Rule + `){0,4}` + whiteRule + `~>`)
	allEmpty = regexp.MustCompile(`^` + whiteRule + `$`)
	isWhite  = regexp.MustCompile(`[\x00\t\n\f\r ]`)
)

func inked(s string) string { return isWhite.ReplaceAllString(s, "") }

func hexPart(data string) (part, bool) {
	if s := hexPair.FindString(data); s != "" {
		out, _ := hex.DecodeString(inked(s))
		return part{string(out), len(s), false}, true
	}
	s := hexLast.FindString(data)
	if s == "" {
		return part{}, false
	}
	digits := strings.TrimSuffix(inked(s), ">")
	out, _ := hex.DecodeString((digits + "0")[:2*len(digits)])
	return part{string(out), len(s), true}, true
}

func a85Part(data string) (part, bool) {
	if s := a85Zero.FindString(data); s != "" {
		return part{zeros(4), len(s), false}, true
	}
	if s := a85Five.FindString(data); s != "" {
		out, ok := a85Number(inked(s))
		return part{out, len(s), false}, ok
	}
	s := a85Last.FindString(data)
	if s == "" {
		return part{}, false
	}
	digits := strings.TrimSuffix(inked(s), "~>")
	if digits == "" {
		return part{"", len(s), true}, true
	}
	out, ok := a85Number((digits + "uuuu")[:5])
	return part{out[:len(digits)-1], len(s), true}, ok && len(digits) > 1
}

func a85Number(digits string) (string, bool) {
	n := new(big.Int)
	for _, d := range []byte(digits) {
		n.Add(n.Mul(n, big.NewInt(85)), big.NewInt(int64(d)-33))
	}
	if n.BitLen() > 32 {
		return zeros(4), false
	}
	return string(n.FillBytes(make([]byte, 4))), true
}

func runPart(data string) (part, bool) {
	switch {
	case data == "":
		return part{}, false
	case data[0] == 128:
		return part{"", 1, true}, true
	case data[0] > 128 && len(data) > 1:
		return part{strings.Repeat(data[1:2], 257-int(data[0])), 2, false}, true
	case data[0] < 128 && len(data) > int(data[0])+1:
		return part{data[1 : data[0]+2], int(data[0]) + 2, false}, true
	}
	return part{}, false
}

func reference(filter int, data string, most int) (string, api.Errno) {
	cut := []func(string) (part, bool){nil, hexPart, a85Part, runPart}[filter]
	out := ""
	for {
		p, ok := cut(data)
		if !ok {
			return "", api.ErrData
		}
		if len(out)+len(p.out) > most {
			return "", api.ErrCap
		}
		out += p.out
		data = data[p.long:]
		if p.last {
			break
		}
	}
	if data != "" && (filter == api.Run || !allEmpty.MatchString(data)) {
		return "", api.ErrData
	}
	return out, api.OK
}

// everyText hands on all texts of at most that many of the letters.
func everyText(letters string, most int, see func(string)) {
	var grow func(text string)
	grow = func(text string) {
		see(text)
		if len(text) == most {
			return
		}
		for i := range len(letters) {
			grow(text + letters[i:i+1])
		}
	}
	grow("")
}

// TestP4EveryShortText holds Decode against the reference at all short texts of the bytes that matter to a filter.
func TestP4EveryShortText(t *testing.T) {
	for _, c := range []struct {
		filter  int
		letters string
		long    int
	}{
		{api.Hex, "4aF> g", 5},
		{api.A85, "!su8~>z ", 5},
		{api.A85, "u!~>", 7},
		{api.A85, "s8W-!\"", 5},
		{api.Run, "\x00\x01\x02\x80\xfe\xff ", 5},
	} {
		everyText(c.letters, c.long, func(text string) {
			for most := range 6 {
				want, e := reference(c.filter, text, most)
				checkDecode(t, []decodeCase{{c.filter, text, most, want, e}})
			}
		})
	}
}

// FuzzDecode holds Decode against the reference at whatever comes.
func FuzzDecode(f *testing.F) {
	f.Add(1, []byte(" 48 6>"), 9)
	f.Add(2, []byte("5sdq,z 5s~>"), 9)
	f.Add(3, []byte("\x01ab\xffc\x80"), 9)
	f.Fuzz(func(t *testing.T, filter int, data []byte, most int) {
		got, e := folio.Decode(filter, data, most)
		if filter < api.Hex || filter > api.Run || most < 0 || most > api.MaxCap || len(data) > api.MaxFile {
			return
		}
		want, wrong := reference(filter, string(data), most)
		if string(got) != want || e != wrong {
			t.Errorf("Decode(%d, %q, %d) = %q, %d, want %q, %d", filter, data, most, got, e, want, wrong)
		}
	})
}
