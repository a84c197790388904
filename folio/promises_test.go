package folio_test

import (
	"bytes"
	"math"
	"math/rand"
	"strings"
	"testing"

	"folio/api"
	"folio/folio"
)

func randomBytes(r *rand.Rand, most int) []byte {
	out := make([]byte, r.Intn(most+1))
	kinds := 1 + r.Intn(256)
	for i := range out {
		out[i] = byte(r.Intn(kinds))
	}
	return out
}

// TestP1AnyArguments calls with numbers and bytes of all sorts: a panic would end the test.
func TestP1AnyArguments(t *testing.T) {
	r := rand.New(rand.NewSource(1))
	numbers := []int{math.MinInt, -1, 0, 1, 2, 3, 4, 5, 9, 255, api.MaxCap, api.MaxCap + 1, math.MaxInt}
	for range 200 {
		data := randomBytes(r, 300)
		for _, filter := range numbers {
			if out, e := folio.Encode(filter, data); e != api.OK && len(out) != 0 {
				t.Fatalf("Encode(%d, %q): %q beside the error %d", filter, data, out, e)
			}
			for _, most := range numbers {
				if out, e := folio.Decode(filter, data, most); e != api.OK && len(out) != 0 {
					t.Fatalf("Decode(%d, %q, %d): %q beside the error %d", filter, data, most, out, e)
				}
			}
		}
	}
	if _, e := folio.Encode(api.Hex, nil); e != api.OK {
		t.Errorf("Encode of nil: %d", e)
	}
	if _, e := folio.Decode(api.Hex, nil, 0); e != api.ErrData {
		t.Errorf("Decode of nil: %d", e)
	}
}

// guarded lays data into greater memory, so that what is written ahead of it or behind it is seen.
type guarded struct {
	all, data, before []byte
}

func guard(data string) guarded {
	all := []byte("ahead" + data + strings.Repeat("behind", 40))
	return guarded{all, all[5 : 5+len(data)], bytes.Clone(all)}
}

func (g guarded) check(t *testing.T, call string) {
	t.Helper()
	if !bytes.Equal(g.all, g.before) {
		t.Errorf("%s wrote into what was handed in: %q, now %q", call, g.before, g.all)
	}
}

// spoil overwrites an answer with its spare room.
func spoil(out []byte) {
	out = out[:cap(out)]
	for i := range out {
		out[i] ^= 0x55
	}
}

var callsOfP2 = []struct {
	filter       int
	plain, coded string
}{
	{api.Hex, "", ">"},
	{api.Hex, "Hi", "4869>"},
	{api.Hex, "Hi", " 4 86 9 > "},
	{api.A85, "", "~>"},
	{api.A85, "Hi", "88/~>"},
	{api.A85, "ABCDA", "5sdq,5l~>"},
	{api.A85, zeros(8), "zz~>"},
	{api.Run, "", "\x80"},
	{api.Run, "abc", "\x02abc\x80"},
	{api.Run, "aaaabc", "\xfda\x01bc\x80"},
	{api.Run, mixed(128), "\x7f" + mixed(128) + "\x80"},
	{api.Flate, "", flate(fixedBlock(""), "")},
	{api.Flate, "Hi", flate(storedBlock(lastStored, "Hi"), "Hi")},
	{api.Flate, "Hi", flate(fixedBlock(fixedText("Hi")), "Hi")},
	{api.Flate, "aaaa", flate(lastOwn+ownCodes(1)+ownA+ownThree+"0"+ownEnd, "aaaa")},
	{api.Flate, varied(500), flate(storedBlock(lastStored, varied(500)), varied(500))},
	{api.Flate, same(500), flate(storedBlock(lastStored, same(500)), same(500))},
}

func TestP2EncodeKeepsNothing(t *testing.T) {
	for _, c := range callsOfP2 {
		g := guard(c.plain)
		first, _ := folio.Encode(c.filter, g.data)
		g.check(t, "Encode")
		kept := bytes.Clone(first)
		spoil(first)
		g.check(t, "Encode")
		second, e := folio.Encode(c.filter, g.data)
		if e != api.OK || !bytes.Equal(second, kept) {
			t.Errorf("Encode(%d, %q): %q, and again: %q", c.filter, c.plain, kept, second)
		}
		spoil(g.all)
		if !bytes.Equal(second, kept) {
			t.Errorf("Encode(%d, %q) shares memory with its argument", c.filter, c.plain)
		}
	}
}

func TestP2DecodeKeepsNothing(t *testing.T) {
	for _, c := range callsOfP2 {
		g := guard(c.coded)
		first, _ := folio.Decode(c.filter, g.data, len(c.plain))
		g.check(t, "Decode")
		spoil(first)
		g.check(t, "Decode")
		second, e := folio.Decode(c.filter, g.data, api.MaxCap)
		if e != api.OK || string(second) != c.plain {
			t.Errorf("Decode(%d, %q) again: %q, %d", c.filter, c.coded, second, e)
		}
		spoil(g.all)
		if string(second) != c.plain {
			t.Errorf("Decode(%d, %q) shares memory with its argument", c.filter, c.coded)
		}
	}
}

// TestP2ErrorsLeaveNothing has a right call behind each sort of wrong one: its answer must not hang on that.
func TestP2ErrorsLeaveNothing(t *testing.T) {
	wrong := []decodeCase{
		{api.Run, "\x01ab\x01ab", 3, "", api.ErrCap},
		{api.Run, "\x01ab\x01a", 9, "", api.ErrData},
		{api.Hex, "4", -1, "", api.ErrArg},
		{api.A85, same(api.MaxFile + 1), 9, "", api.ErrLong},
		{api.Flate, flate(fixedBlock(fixedText("ab")), "ab"), 1, "", api.ErrCap},
		{api.Flate, flate(fixedBlock(fixedText("ab")), "ba"), 9, "", api.ErrData},
	}
	for _, w := range wrong {
		g := guard(w.data)
		if out, e := folio.Decode(w.filter, g.data, w.most); e != w.e || len(out) != 0 {
			t.Errorf("Decode(%d, %.20q, %d): %q, %d, want %d", w.filter, w.data, w.most, out, e, w.e)
		}
		g.check(t, "Decode")
		checkDecode(t, []decodeCase{
			{api.Hex, "4869>", 2, "Hi", api.OK},
			{api.Flate, flate(fixedBlock(fixedText("Hi")), "Hi"), 2, "Hi", api.OK},
		})
	}
}

// TestP2SpareRoomIsNoMatter: the bytes behind those handed in do not belong to them.
func TestP2SpareRoomIsNoMatter(t *testing.T) {
	for _, c := range []struct {
		filter int
		all    string
		long   int
	}{
		{api.Hex, "48>", 2},
		{api.A85, "88/~>", 4},
		{api.Run, "\x00a\x80", 2},
		{api.Flate, flate(storedBlock(lastStored, "Hi"), "Hi"), 8},
		{api.Flate, flate(fixedBlock(fixed('a')), "a"), 8},
	} {
		if _, e := folio.Decode(c.filter, []byte(c.all)[:c.long], 9); e != api.ErrData {
			t.Errorf("Decode(%d, %q): %d, want ErrData", c.filter, c.all[:c.long], e)
		}
	}
	checkEncode(t, []encodeCase{{api.Run, "aa", "\xffa\x80"}})
	if out, _ := folio.Encode(api.Run, []byte("aaa")[:2]); string(out) != "\xffa\x80" {
		t.Errorf("Encode looked behind its bytes: %q", out)
	}
	for long := range 9 {
		out, _ := folio.Encode(api.Flate, []byte(same(600))[:long])
		if back := byLibrary(t, out); back != same(long) {
			t.Errorf("Encode looked behind its bytes: %q", back)
		}
	}
}

func checkBack(t *testing.T, filter int, data []byte) {
	t.Helper()
	coded, e := folio.Encode(filter, data)
	if e != api.OK {
		t.Fatalf("Encode(%d, %d bytes): %d", filter, len(data), e)
	}
	want, wrong := data, api.OK
	if len(coded) > api.MaxFile {
		want, wrong = nil, api.ErrLong
	}
	back, e := folio.Decode(filter, coded, len(data))
	if e != wrong || !bytes.Equal(back, want) {
		t.Fatalf("Decode(%d) of Encode of %d bytes (%d): %d bytes, %d, want %d", filter, len(data), len(coded), len(back), e, wrong)
	}
}

// TestP7DecodeOfEncode: beside the ordinary, bytes of which just MaxFile, or one or more too many, are made.
func TestP7DecodeOfEncode(t *testing.T) {
	r := rand.New(rand.NewSource(7))
	for filter := api.Hex; filter <= api.Flate; filter++ {
		for range 500 {
			checkBack(t, filter, randomBytes(r, 700))
		}
		for _, long := range []int{0, 1, 2, 3, 4, 5, 127, 128, 129, 130, 256, 257} {
			for _, data := range []string{zeros(long), same(long), mixed(long), strings.Repeat("\xff", long)} {
				checkBack(t, filter, []byte(data))
			}
		}
		for _, long := range []int{99999, 100000, 159998, 159999, 160000, 199973, 199974, 199975, api.MaxFile} {
			checkBack(t, filter, []byte(same(long)))
			checkBack(t, filter, []byte(mixed(long)))
			checkBack(t, filter, []byte(varied(long)))
		}
	}
}
