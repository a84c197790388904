package folio_test

import (
	"bytes"
	"compress/zlib"
	"io"
	"math/rand"
	"strings"
	"testing"

	"folio/api"
	"folio/folio"
)

// checkPacked holds what Encode gives by filter 4 against the document's bounds, the slow reference and Go's library.
func checkPacked(t *testing.T, plain string) []byte {
	t.Helper()
	packed, e := folio.Encode(api.Flate, []byte(plain))
	if e != api.OK {
		t.Fatalf("Encode(4, %d bytes): %d", len(plain), e)
	}
	most := len(plain) + 11 + 5*((len(plain)+65534)/65535)
	if plain != "" && strings.Count(plain, plain[:1]) == len(plain) {
		most = min(most, 60+len(plain)/100)
	}
	if len(packed) > most {
		t.Errorf("Encode(4, %d bytes %.20q): %d bytes, want at most %d", len(plain), plain, len(packed), most)
	}
	if back := byLibrary(t, packed); back != plain {
		t.Errorf("Encode(4, %d bytes %.20q): the library reads %.20q", len(plain), plain, back)
	}
	if len(plain) > 3000 {
		return packed
	}
	if back, e := flateReference(string(packed), len(plain)); back != plain || e != api.OK {
		t.Errorf("Encode(4, %d bytes %.20q): the reference reads %.20q, %d", len(plain), plain, back, e)
	}
	return packed
}

func byLibrary(t *testing.T, packed []byte) string {
	t.Helper()
	from := bytes.NewReader(packed)
	r, err := zlib.NewReader(from)
	if err != nil {
		t.Fatalf("the library can't read %.20q: %v", packed, err)
	}
	back, err := io.ReadAll(r)
	if err != nil || from.Len() > 0 {
		t.Fatalf("the library can't read %.20q: %v, %d bytes left", packed, err, from.Len())
	}
	return string(back)
}

func TestP3EncodeFlate(t *testing.T) {
	r := rand.New(rand.NewSource(34))
	for long := range 700 {
		checkPacked(t, mixed(long))
		checkPacked(t, varied(long))
		checkPacked(t, string(randomBytes(r, 3000)))
	}
	words := strings.Fields("a rose is, all of it, rosé and prose as are those")
	for range 100 {
		var plain strings.Builder
		for range r.Intn(2000) {
			plain.WriteString(words[r.Intn(len(words))] + " ")
		}
		checkPacked(t, plain.String())
	}
}

// TestP3EncodeFlateSame: of one byte many times little comes.
func TestP3EncodeFlateSame(t *testing.T) {
	for b := range 256 {
		for _, long := range []int{1, 2, 3, 4, 5, 49, 50, 99, 100, 101, 257, 258, 259, 260, 261, 262, 517, 1000} {
			checkPacked(t, strings.Repeat(string([]byte{byte(b)}), long))
		}
	}
	for _, b := range []string{"\x00", "a", "\x8f", "\x90", "\xff"} {
		for _, long := range []int{32768, 65535, 65536, 131070, 131071, api.MaxFile - 1, api.MaxFile} {
			checkPacked(t, strings.Repeat(b, long))
		}
	}
}

// TestP3EncodeFlateGrows: bytes that can't be packed grow by little, where one more block begins too.
func TestP3EncodeFlateGrows(t *testing.T) {
	for _, long := range []int{65534, 65535, 65536, 131069, 131070, 131071, 196605, 196606, api.MaxFile - 1, api.MaxFile} {
		checkPacked(t, varied(long))
		checkPacked(t, strings.Repeat(varied(40000), 5)[:long])
	}
}

// TestP3EncodeFlateFar has bytes come again as far back as may be told, a byte nearer, and a byte too far.
func TestP3EncodeFlateFar(t *testing.T) {
	bytesAgain := varied(300)
	for _, far := range []int{300, 301, 4096, 32766, 32767, 32768, 32769, 32770, 65536} {
		plain := bytesAgain + strings.Repeat("\x00", far-300) + bytesAgain
		checkPacked(t, plain)
	}
}

// TestP3EncodeFlatePacks: what comes again is packed by where it stood.
func TestP3EncodeFlatePacks(t *testing.T) {
	for plain, most := range map[string]int{
		strings.Repeat("a rose is a rose is a rose. ", 40): 60,
		varied(1000) + varied(1000):                        1100,
		mixed(5000):                                        60,
	} {
		if packed := checkPacked(t, plain); len(packed) > most {
			t.Errorf("Encode(4, %d bytes %.20q): %d bytes, want at most %d", len(plain), plain, len(packed), most)
		}
	}
}
