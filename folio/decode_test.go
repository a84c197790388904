package folio_test

import (
	"math"
	"strings"
	"testing"

	"folio/api"
	"folio/folio"
)

const allWhite = "\x00\t\n\f\r "

type decodeCase struct {
	filter int
	data   string
	most   int
	want   string
	e      api.Errno
}

func checkDecode(t *testing.T, cases []decodeCase) {
	t.Helper()
	for _, c := range cases {
		got, e := folio.Decode(c.filter, []byte(c.data), c.most)
		if e != c.e || string(got) != c.want {
			t.Errorf("Decode(%d, %.40q, %d) = %.60q, %d, want %.60q, %d", c.filter, c.data, c.most, got, e, c.want, c.e)
		}
	}
}

// checkMost decodes what is right with just as much room as it needs, with more, and with one byte less.
func checkMost(t *testing.T, filter int, data, want string) {
	t.Helper()
	checkDecode(t, []decodeCase{
		{filter, data, len(want), want, api.OK},
		{filter, data, api.MaxCap, want, api.OK},
	})
	if len(want) > 0 {
		checkDecode(t, []decodeCase{
			{filter, data, len(want) - 1, "", api.ErrCap},
			{filter, data, 0, "", api.ErrCap},
		})
	}
}

func TestP4DecodeHex(t *testing.T) {
	for data, want := range map[string]string{
		">":         "",
		"4869>":     "Hi",
		"00fF09Aa>": "\x00\xff\x09\xaa",
		"486>":      "H`",
		"7>":        "p",
		allWhite + "4" + allWhite + "8" + allWhite + "6" + allWhite + ">" + allWhite: "H`",
		allWhite + ">" + allWhite: "",
	} {
		checkMost(t, api.Hex, data, want)
	}
}

func TestP4DecodeHexWrong(t *testing.T) {
	for _, data := range []string{
		"", " ", "4", "48", "48 ", "486", "48>>", "48>4", "48>%", "4g>", "g4>", "4/>", "4:>", "4@>", "4`>", "4G>",
		"%\n48>", "48%\n>", "4\v8>", "\xff>", "<48>", "48\x80>", "48~>", "0x48>",
	} {
		checkDecode(t, []decodeCase{{api.Hex, data, api.MaxCap, "", api.ErrData}})
	}
}

func TestP4DecodeHexFirstError(t *testing.T) {
	checkDecode(t, []decodeCase{
		{api.Hex, "4869zz", 1, "", api.ErrCap},
		{api.Hex, "4869", 1, "", api.ErrCap},
		{api.Hex, "48zz", 1, "", api.ErrData},
		{api.Hex, "48z", 1, "", api.ErrData},
		{api.Hex, "486z", 1, "", api.ErrData},
		{api.Hex, "486", 1, "", api.ErrData},
		{api.Hex, "486>", 1, "", api.ErrCap},
		{api.Hex, "486>x", 1, "", api.ErrCap},
		{api.Hex, "486 x>", 1, "", api.ErrData},
		{api.Hex, "48>x", 1, "", api.ErrData},
		{api.Hex, ">x", 0, "", api.ErrData},
		{api.Hex, "", 0, "", api.ErrData},
	})
}

func TestP4DecodeA85(t *testing.T) {
	for data, want := range map[string]string{
		"~>":            "",
		"5s~>":          "A",
		"5sd~>":         "AB",
		"5sdq~>":        "ABC",
		"5sdq,~>":       "ABCD",
		"5sdq,5s~>":     "ABCDA",
		"88/~>":         "Hi",
		"%\n5s~>":       "\r6",
		"z~>":           zeros(4),
		"!!!!!~>":       zeros(4),
		"!!!!!z!!!!!~>": zeros(12),
		"zz!!~>":        zeros(9),
		"!\"~>":         "\x00",
		"!!!!\"~>":      "\x00\x00\x00\x01",
		"s8W-!~>":       "\xff\xff\xff\xff",
		"s8W,~>":        "\xff\xff\xff",
		"s8V~>":         "\xff\xff",
		"s7~>":          "\xff",
	} {
		checkMost(t, api.A85, data, want)
	}
	spread := allWhite + strings.Join(strings.Split("5sdq,z5s", ""), allWhite) + allWhite + "~>" + allWhite
	checkMost(t, api.A85, spread, "ABCD"+zeros(4)+"A")
	checkMost(t, api.A85, allWhite+"~>"+allWhite, "")
}

func TestP4DecodeA85Wrong(t *testing.T) {
	for _, data := range []string{
		"", " ", "~", "~ >", "~x", ">", "~>~>", "~>z", "~>!", "~>%", "5~>", "5sdq,5~>", "5sdq,", "5sdq", "5sdq,~",
		"z", "5z~>", "5sz~>", "5sdz~>", "5sdqz~>", "5sdq,5z~>", "5s~", "5s~\n>", "5s>", "5sv~>", "5s{~>", "5sy~>", "5s}~>",
		"5s\x7f~>", "5s\v~>", "5s\xff~>", "<~5s~>", "Z v~>",
		"s8W-\"~>", "s8W-~>", "s8W~>", "s8~>", "uu~>", "uuuuu~>", "uuuu~>", "zuuuuuz~>", "s8W-!s8W-\"~>",
	} {
		checkDecode(t, []decodeCase{{api.A85, data, api.MaxCap, "", api.ErrData}})
	}
}

func TestP4DecodeA85FirstError(t *testing.T) {
	checkDecode(t, []decodeCase{
		{api.A85, "zv", 3, "", api.ErrCap},
		{api.A85, "zv", 4, "", api.ErrData},
		{api.A85, "5sdq,v", 3, "", api.ErrCap},
		{api.A85, "5sdqv", 3, "", api.ErrData},
		{api.A85, "5sdq", 0, "", api.ErrData},
		{api.A85, "s8W-\"", 3, "", api.ErrData},
		{api.A85, "s8W-\"", 0, "", api.ErrData},
		{api.A85, "5s~x", 0, "", api.ErrData},
		{api.A85, "5s~", 0, "", api.ErrData},
		{api.A85, "5s~>x", 0, "", api.ErrCap},
		{api.A85, "5s~>x", 1, "", api.ErrData},
		{api.A85, "5~>", 0, "", api.ErrData},
		{api.A85, "s8~>", 0, "", api.ErrData},
		{api.A85, "5sdq,5s~>", 4, "", api.ErrCap},
		{api.A85, "5sdq,5~>", 4, "", api.ErrData},
		{api.A85, "~>x", 0, "", api.ErrData},
	})
}

func TestP4DecodeRun(t *testing.T) {
	for data, want := range map[string]string{
		"\x80":                            "",
		"\x00a\x80":                       "a",
		"\x01ab\x80":                      "ab",
		"\x00\x80\x80":                    "\x80",
		"\xff\x80\x80":                    "\x80\x80",
		"\xffa\x80":                       "aa",
		"\x81a\x80":                       same(128),
		"\x82a\x80":                       same(127),
		"\x81a\x00a\x80":                  same(129),
		"\x7f" + mixed(128) + "\x80":      mixed(128),
		"\x7f" + mixed(128) + "\x00a\x80": mixed(129),
		"\x02aaa\xffa\x00a\x80":           same(6),
		"\x00\x00\x02 \n%\xfe~\x80":       "\x00 \n%~~~",
		"\x00a\x00b\x00c\x00d\x00e\xffe\xffe\x80": "abcdeeeee",
	} {
		checkMost(t, api.Run, data, want)
	}
}

func TestP4DecodeRunWrong(t *testing.T) {
	for _, data := range []string{
		"", "\x00", "\x00a", "\x01a", "\x01a\x80", "\x7f" + mixed(127), "\x7f" + mixed(127) + "\x80", "\xff", "\x81", "\xffa",
		"\x80\x80", "\x80\n", "\x80 ", "\x00a\x80\x00", " \x80",
	} {
		checkDecode(t, []decodeCase{{api.Run, data, api.MaxCap, "", api.ErrData}})
	}
}

func TestP4DecodeRunFirstError(t *testing.T) {
	checkDecode(t, []decodeCase{
		{api.Run, "\x01ab\x01", 1, "", api.ErrCap},
		{api.Run, "\x01ab\x01", 2, "", api.ErrData},
		{api.Run, "\x01a", 0, "", api.ErrData},
		{api.Run, "\x00", 0, "", api.ErrData},
		{api.Run, "\xff", 0, "", api.ErrData},
		{api.Run, "\xffa", 1, "", api.ErrCap},
		{api.Run, "\xffa", 2, "", api.ErrData},
		{api.Run, "\xffa\x80\x80", 1, "", api.ErrCap},
		{api.Run, "\x80\x80", 0, "", api.ErrData},
	})
}

func TestP4DecodeArguments(t *testing.T) {
	long := strings.Repeat(">", api.MaxFile+1)
	for _, filter := range []int{0, 5, -1, math.MinInt, math.MaxInt, 1 << 32, 1<<32 + 1} {
		for _, most := range []int{0, 9, -1, api.MaxCap + 1} {
			checkDecode(t, []decodeCase{
				{filter, ">", most, "", api.ErrArg},
				{filter, long, most, "", api.ErrArg},
			})
		}
	}
	for filter := api.Hex; filter <= api.Flate; filter++ {
		for _, most := range []int{-1, api.MaxCap + 1, math.MinInt, math.MaxInt, 1 << 32} {
			checkDecode(t, []decodeCase{
				{filter, ">", most, "", api.ErrArg},
				{filter, "", most, "", api.ErrArg},
				{filter, long, most, "", api.ErrArg},
			})
		}
		checkDecode(t, []decodeCase{
			{filter, long, 0, "", api.ErrLong},
			{filter, long, api.MaxCap, "", api.ErrLong},
		})
	}
}

func TestP4DecodeMostBytesIn(t *testing.T) {
	checkMost(t, api.Hex, strings.Repeat(" ", api.MaxFile-1)+">", "")
	checkMost(t, api.Hex, strings.Repeat("61", api.MaxFile/2-1)+"6>", same(api.MaxFile/2-1)+"`")
	checkMost(t, api.A85, strings.Repeat("z", api.MaxFile-2)+"~>", zeros(4*(api.MaxFile-2)))
	checkMost(t, api.Run, strings.Repeat("\x00a", api.MaxFile/2-1)+"\x80", same(api.MaxFile/2-1))
	checkDecode(t, []decodeCase{
		{api.Hex, strings.Repeat("6", api.MaxFile), api.MaxCap, "", api.ErrData},
		{api.A85, strings.Repeat("z", api.MaxFile), api.MaxCap, "", api.ErrData},
		{api.Run, strings.Repeat("\x00a", api.MaxFile/2), api.MaxCap, "", api.ErrData},
	})
}

func TestP4DecodeMostBytesOut(t *testing.T) {
	runs := strings.Repeat("\x81a", api.MaxCap/128)
	rest := api.MaxCap % 128
	checkMost(t, api.Run, runs+string([]byte{byte(257 - rest), 'a', 128}), same(api.MaxCap))
	checkDecode(t, []decodeCase{
		{api.Run, runs + string([]byte{byte(257 - rest - 1), 'a', 128}), api.MaxCap, "", api.ErrCap},
		{api.Run, strings.Repeat("\x81a", api.MaxFile/2), api.MaxCap, "", api.ErrCap},
	})
}
