package folio_test

import (
	"encoding/ascii85"
	"encoding/hex"
	"math"
	"math/rand"
	"strings"
	"testing"

	"folio/api"
	"folio/folio"
)

func zeros(n int) string { return strings.Repeat("\x00", n) }

func same(n int) string { return strings.Repeat("a", n) }

// mixed has n bytes, no two neighbours of which are the same, and no x among them.
func mixed(n int) string { return strings.Repeat("ab", n)[:n] }

type encodeCase struct {
	filter     int
	data, want string
}

func checkEncode(t *testing.T, cases []encodeCase) {
	t.Helper()
	for _, c := range cases {
		got, e := folio.Encode(c.filter, []byte(c.data))
		if e != api.OK || string(got) != c.want {
			t.Errorf("Encode(%d, %.40q) = %.60q, %d, want %.60q", c.filter, c.data, got, e, c.want)
		}
	}
}

func TestP3EncodeHex(t *testing.T) {
	checkEncode(t, []encodeCase{
		{api.Hex, "", ">"},
		{api.Hex, "Hi", "4869>"},
		{api.Hex, "\x00\x09\xa0\xff", "0009a0ff>"},
		{api.Hex, ">", "3e>"},
	})
}

func TestP3EncodeA85(t *testing.T) {
	checkEncode(t, []encodeCase{
		{api.A85, "", "~>"},
		{api.A85, "H", "8,~>"},
		{api.A85, "Hi", "88/~>"},
		{api.A85, "\x00\x00\x00\x00", "z~>"},
		{api.A85, "\x00", "!!~>"},
		{api.A85, "\x00\x00", "!!!~>"},
		{api.A85, "\x00\x00\x00", "!!!!~>"},
		{api.A85, "\x00\x00\x00\x01", "!!!!\"~>"},
		{api.A85, "\x01\x00\x00\x00", "!<<*\"~>"},
		{api.A85, "a\x00\x00\x00\x00bcd" + zeros(9), "@/p9-!+KGKzz!!~>"},
		{api.A85, "\xff\xff\xff\xff", "s8W-!~>"},
		{api.A85, "\xff\xff\xff", "s8W*~>"},
		{api.A85, "\xff\xff", "s8N~>"},
		{api.A85, "\xff", "rr~>"},
	})
}

func TestP3EncodeRun(t *testing.T) {
	checkEncode(t, []encodeCase{
		{api.Run, "", "\x80"},
		{api.Run, "a", "\x00a\x80"},
		{api.Run, "aa", "\xffa\x80"},
		{api.Run, "aab", "\xffa\x00b\x80"},
		{api.Run, "aabb", "\xffa\xffb\x80"},
		{api.Run, "abba", "\x00a\xffb\x00a\x80"},
		{api.Run, same(127), "\x82a\x80"},
		{api.Run, same(128), "\x81a\x80"},
		{api.Run, same(129), "\x81a\x00a\x80"},
		{api.Run, same(129) + "bb", "\x81a\x00a\xffb\x80"},
		{api.Run, same(129) + "bc", "\x81a\x02abc\x80"},
		{api.Run, same(130), "\x81a\xffa\x80"},
		{api.Run, same(257), "\x81a\x81a\x00a\x80"},
		{api.Run, mixed(127), "\x7e" + mixed(127) + "\x80"},
		{api.Run, mixed(128), "\x7f" + mixed(128) + "\x80"},
		{api.Run, mixed(129), "\x7f" + mixed(128) + "\x00a\x80"},
		{api.Run, mixed(126) + "xx", "\x7d" + mixed(126) + "\xffx\x80"},
		{api.Run, mixed(127) + "xx", "\x7e" + mixed(127) + "\xffx\x80"},
		{api.Run, mixed(128) + "xx", "\x7f" + mixed(128) + "\xffx\x80"},
		{api.Run, mixed(129) + "xx", "\x7f" + mixed(128) + "\x00a\xffx\x80"},
	})
}

func hexByLibrary(data string) string { return hex.EncodeToString([]byte(data)) + ">" }

func a85ByLibrary(data string) string {
	out := make([]byte, ascii85.MaxEncodedLen(len(data)))
	return string(out[:ascii85.Encode(out, []byte(data))]) + "~>"
}

// TestP3EncodeLikeLibrary holds the encoders against those of Go's library, which write filters 1 and 2 in the same way.
func TestP3EncodeLikeLibrary(t *testing.T) {
	r := rand.New(rand.NewSource(3))
	for range 500 {
		data := string(randomBytes(r, 60))
		checkEncode(t, []encodeCase{
			{api.Hex, data, hexByLibrary(data)},
			{api.A85, data, a85ByLibrary(data)},
		})
	}
}

func TestP3EncodeErrors(t *testing.T) {
	long := make([]byte, api.MaxFile+1)
	for _, c := range []struct {
		filter int
		data   []byte
		want   api.Errno
	}{
		{0, nil, api.ErrArg},
		{5, nil, api.ErrArg},
		{-1, []byte("a"), api.ErrArg},
		{math.MinInt, nil, api.ErrArg},
		{math.MaxInt, nil, api.ErrArg},
		{1 << 32, nil, api.ErrArg},
		{1<<32 + 1, nil, api.ErrArg},
		{0, long, api.ErrArg},
		{api.Hex, long, api.ErrLong},
		{api.A85, long, api.ErrLong},
		{api.Run, long, api.ErrLong},
		{api.Flate, long, api.ErrLong},
	} {
		if got, e := folio.Encode(c.filter, c.data); len(got) != 0 || e != c.want {
			t.Errorf("Encode(%d, %d bytes): %d bytes, %d, want %d", c.filter, len(c.data), len(got), e, c.want)
		}
	}
}

func TestP3EncodeMostBytes(t *testing.T) {
	for _, c := range []struct {
		filter int
		data   string
		want   int
	}{
		{api.Hex, zeros(api.MaxFile), 2*api.MaxFile + 1},
		{api.A85, zeros(api.MaxFile), api.MaxFile/4 + 2},
		{api.A85, same(api.MaxFile), api.MaxFile/4*5 + 2},
		{api.Run, same(api.MaxFile), 1563*2 + 1},
		{api.Run, mixed(api.MaxFile), api.MaxFile + 1563 + 1},
	} {
		if got, e := folio.Encode(c.filter, []byte(c.data)); len(got) != c.want || e != api.OK {
			t.Errorf("Encode(%d, MaxFile bytes): %d bytes, %d, want %d", c.filter, len(got), e, c.want)
		}
	}
}
