package folio_test

import (
	"bytes"
	"compress/zlib"
	"fmt"
	"regexp"
	"strings"
	"testing"

	"folio/api"
	"folio/folio"
)

// A file in which «1», «2» and «x» mark places, and «1p», «2p» and «xp» tell them.
const template = "%PDF-1.4\n«1»1 0 obj\n<<>>\nendobj\n«2»2 0 obj\n[1 0 R]\nendobj\n" +
	"«x»xref\n0 3\n0000000000 65535 f \n«1p» 00000 n \n«2p» 00000 n \n" +
	"trailer\n<</Size 3 /Root 1 0 R>>\nstartxref\n«xp»\n%%EOF\n"

var marker = regexp.MustCompile(`«(.)(p?)»`)

// placed is the template's file, with parts replaced: an old one, a new one, and so on. The places are as they come to be then.
func placed(t *testing.T, parts ...string) string {
	t.Helper()
	text := template
	for i := 0; i < len(parts); i += 2 {
		if strings.Count(text, parts[i]) != 1 {
			t.Fatalf("the test itself: %q", parts[i])
		}
		text = strings.Replace(text, parts[i], parts[i+1], 1)
	}
	places := map[string]int{}
	for at := marker.FindStringSubmatchIndex(text); at != nil; at = marker.FindStringSubmatchIndex(text) {
		name, told := text[at[2]:at[3]], ""
		switch {
		case at[4] == at[5]:
			places[name] = at[0]
		case name == "x":
			told = fmt.Sprint(places[name])
		default:
			told = fmt.Sprintf("%010d", places[name])
		}
		text = text[:at[0]] + told + text[at[1]:]
	}
	return text
}

func checkPlaced(t *testing.T, right bool, parts ...string) {
	t.Helper()
	for i := 0; i < len(parts); i += 2 {
		file := placed(t, parts[i], parts[i+1])
		if right {
			checkRead(t, file, 0, rooted(1, dict(), array(refer(1))))
		} else {
			checkNoRead(t, api.ErrFile, 0, file)
		}
	}
}

func TestP6Head(t *testing.T) {
	checkPlaced(t, true,
		"%PDF-1.4\n", "%PDF-1.4\n",
		"%PDF-1.4\n", "%PDF-1.4\n\r\n \x00",
		"%PDF-1.4\n", "%PDF-1.4\n%\xe2\xe3\xcf\xd3\r",
		"%PDF-1.4\n", "%PDF-1.4\n%PDF-1.5\n",
	)
	checkPlaced(t, false,
		"%PDF-1.4\n", "",
		"%PDF-1.4\n", "%PDF-1.4",
		"%PDF-1.4\n", "%PDF-1.4\r",
		"%PDF-1.4\n", "%PDF-1.4\r\n",
		"%PDF-1.4\n", "%PDF-1.4 \n",
		"%PDF-1.4\n", "%PDF-1.5\n",
		"%PDF-1.4\n", "%pdf-1.4\n",
		"%PDF-1.4\n", "\n%PDF-1.4\n",
		"%PDF-1.4\n", " %PDF-1.4\n",
		"%PDF-1.4\n", "PDF-1.4\n",
		"%PDF-1.4\n", "%PDF-1.40\n",
	)
}

func TestP6ObjectWords(t *testing.T) {
	checkPlaced(t, true,
		"«2»2 0 obj\n", "\n\n«2»2\r0\x00obj\t",
		"«2»2 0 obj\n", "%x\n«2»2%\n0%\robj%[\n",
		"«2»2 0 obj\n[1 0 R]\nendobj\n", "«2»2 0 obj[1 0 R]endobj\n",
		"[1 0 R]\nendobj\n", "[1 0 R] % endobj\n endobj%\n",
		"endobj\n«2»", "endobj\r«2»",
		"endobj\n«2»", "endobj\x00«2»",
		"endobj\n«2»", "endobj%2 0 obj\r\n«2»",
		"[1 0 R]\nendobj", "[+1%\n0 R]endobj",
	)
	checkPlaced(t, false,
		"«2»2 0 obj", "«2»3 0 obj",
		"«2»2 0 obj", "«2»1 0 obj",
		"«2»2 0 obj", "«2»02 0 obj",
		"«2»2 0 obj", "«2»+2 0 obj",
		"«2»2 0 obj", "«2»2. 0 obj",
		"«2»2 0 obj", "+«2»2 0 obj",
		"«2»2 0 obj", "0«2»2 0 obj",
		"«2»2 0 obj", "«2»2 00 obj",
		"«2»2 0 obj", "«2»2 1 obj",
		"«2»2 0 obj", "«2»2 +0 obj",
		"«2»2 0 obj", "«2»2 -0 obj",
		"«2»2 0 obj", "«2»2 0 object",
		"«2»2 0 obj", "«2»2 0 Obj",
		"«2»2 0 obj", "«2»2 0obj",
		"«2»2 0 obj", "«2»20 obj",
		"«2»2 0 obj", "«2»2 obj",
		"«2»2 0 obj", "«2»0 obj",
		"«2»2 0 obj", "«2»(2) 0 obj",
		"«2»2 0 obj", "«2»2 0 /obj",
		"«2»2 0 obj", "«2»2 0 R",
		"«2»2 0 obj", "«2»",
		"«2»2 0 obj\n[1 0 R]\nendobj\n", "«2»2 0 obj1 endobj\n",
		"[1 0 R]\nendobj", "[1 0 R]\nendobjx",
		"[1 0 R]\nendobj", "[1 0 R]\nENDOBJ",
		"[1 0 R]\nendobj", "[1 0 R]\nendob",
		"[1 0 R]\nendobj", "[1 0 R]\n/endobj",
		"[1 0 R]\nendobj", "[1 0 R]\n(endobj)",
		"[1 0 R]\nendobj", "[1 0 R]1 endobj",
		"[1 0 R]\nendobj", "[1 0 R]endobj endobj",
		"[1 0 R]\nendobj", "1endobj",
		"[1 0 R]\nendobj", "[1 0 R]",
		"[1 0 R]\nendobj", "endobj",
		"[1 0 R]\nendobj", "[1 0 R]%endobj",
		"endobj\n«2»", "endobj«2»",
		"endobj\n«2»", "endobj%«2»",
		"endobj\n«2»", "endobj null «2»",
		"endobj\n«2»", "endobj>«2»",
		"endobj\n«x»", "endobj«x»",
		"endobj\n«x»", "endobj%«x»",
	)
	swapped := placed(t, "«1»1 0 obj\n<<>>\nendobj\n", "", "endobj\n«x»", "endobj\n«1»1 0 obj\n<<>>\nendobj\n«x»")
	checkNoRead(t, api.ErrFile, 0, swapped, placed(t, "«1»1 0 obj\n<<>>\nendobj\n", "«1»1 0 obj\n<<>>\nendobj\n1 0 obj\n<<>>\nendobj\n"))
}

func TestP6CrossTable(t *testing.T) {
	checkPlaced(t, true,
		"endobj\n«x»", "endobj «x»",
		"endobj\n«x»", "endobj\n\n \t%xref\r«x»",
		"65535 f \n", "65535 f\r\n",
		"«1p» 00000 n \n", "«1p» 00000 n\r\n",
		"«2p» 00000 n \n", "«2p» 00000 n\r\n",
		"«2p» 00000 n \n", "«2p» 00000 n \n\n",
		"«2p» 00000 n \n", "«2p» 00000 n\r\n%0000000000 00000 n \n",
		"«2p» 00000 n \n", "«2p» 00000 n \n \x00\r\n",
	)
	for _, end := range []string{" \r", "\n\r", "\r \n", "\n", "\r", " ", "", "  \n", " \r\n", "\r\r", "\n\n", "\t\n", "x\n", "%\n"} {
		checkPlaced(t, false, "65535 f \n", "65535 f"+end, "«1p» 00000 n \n", "«1p» 00000 n"+end, "«2p» 00000 n \n", "«2p» 00000 n"+end)
	}
	checkPlaced(t, false,
		"«x»xref\n0 3\n", "«x»xref\r0 3\n",
		"«x»xref\n0 3\n", "«x»xref\r\n0 3\n",
		"«x»xref\n0 3\n", "«x»xref \n0 3\n",
		"«x»xref\n0 3\n", "«x»xref 0 3\n",
		"«x»xref\n0 3\n", "«x»xref\n\n0 3\n",
		"«x»xref\n0 3\n", "«x»xref%\n0 3\n",
		"«x»xref\n0 3\n", "«x»xrefs\n0 3\n",
		"«x»xref\n0 3\n", "«x»Xref\n0 3\n",
		"«x»xref\n0 3\n", "«x»0 3\n",
		"«x»xref\n0 3\n", "«x»",
		"«x»xref\n0 3\n", "«x»xref\n0 2\n",
		"«x»xref\n0 3\n", "«x»xref\n0 4\n",
		"«x»xref\n0 3\n", "«x»xref\n1 3\n",
		"«x»xref\n0 3\n", "«x»xref\n0  3\n",
		"«x»xref\n0 3\n", "«x»xref\n0 03\n",
		"«x»xref\n0 3\n", "«x»xref\n0 +3\n",
		"«x»xref\n0 3\n", "«x»xref\n00 3\n",
		"«x»xref\n0 3\n", "«x»xref\n0 3 \n",
		"«x»xref\n0 3\n", "«x»xref\n0 3\r\n",
		"«x»xref\n0 3\n", "«x»xref\n0 3\r",
		"«x»xref\n0 3\n", "«x»xref\n 0 3\n",
		"«x»xref\n0 3\n", "«x»xref\n0\n3\n",
		"«x»xref\n0 3\n", "«x»xref\n0 3",
		"«x»xref\n0 3\n", "«x»xref\n0 3\n\n",
		"0000000000 65535 f", "0000000000 65535 n",
		"0000000000 65535 f", "0000000000 65535 F",
		"0000000000 65535 f", "0000000000 00000 f",
		"0000000000 65535 f", "0000000000 65536 f",
		"0000000000 65535 f", "0000000001 65535 f",
		"0000000000 65535 f", "000000000 65535 f",
		"0000000000 65535 f", "00000000000 65535 f",
		"0000000000 65535 f", "0000000000  65535 f",
		"0000000000 65535 f", "0000000000 65535  f",
		"0000000000 65535 f", " 0000000000 65535 f",
		"0000000000 65535 f \n", "",
		"«1p» 00000 n", "«2p» 00000 n",
		"«2p» 00000 n", "«1p» 00000 n",
		"«2p» 00000 n", "«2p» 00000 f",
		"«2p» 00000 n", "«2p» 00000 N",
		"«2p» 00000 n", "«2p» 65535 n",
		"«2p» 00000 n", "«2p» 00001 n",
		"«2p» 00000 n", "«2p» 0000 n",
		"«2p» 00000 n", "«2p» 000000 n",
		"«2p» 00000 n", "«2p»  00000 n",
		"«2p» 00000 n", "«2p»\t00000 n",
		"«2p» 00000 n", "0«2p» 00000 n",
		"«2p» 00000 n", "+«2p» 00000 n",
		"«2p» 00000 n \n", "",
		"«2p» 00000 n \n", "«2p» 00000 n \n«2p» 00000 n \n",
		"«2»2 0 obj", "«2» 2 0 obj",
		"«2»2 0 obj", "2«2» 0 obj",
		"«1»1 0 obj", "«1»%\n1 0 obj",
	)
}

func TestP6Trailer(t *testing.T) {
	const whole = "trailer\n<</Size 3 /Root 1 0 R>>\nstartxref"
	for _, now := range []string{
		"trailer<</Size 3/Root 1 0 R>>startxref", "trailer% x\n<</Size 3 /Root 1 0 R>>% x\rstartxref", "%x\n \x00trailer\r<< /Root\f1 0%\nR%>>\n/Size%\n3 >>\tstartxref",
		"trailer<</Root 1 0 R/Size 3>>startxref", "trailer<</Size +3/Root +1 0 R>>startxref", "trailer<</Size 0000000003/Root 0000000001 0 R>>startxref", "trailer<</S#69ze 3/#52oot 1 0 R>>startxref",
	} {
		checkPlaced(t, true, whole, now)
	}
	for _, now := range []string{
		"trailers\n<</Size 3 /Root 1 0 R>>\nstartxref", "Trailer\n<</Size 3 /Root 1 0 R>>\nstartxref", "<</Size 3 /Root 1 0 R>>\nstartxref", "/trailer\n<</Size 3 /Root 1 0 R>>\nstartxref",
		"trailer\nstartxref", "trailer\n<<>>\nstartxref", "trailer\n<</Size 3>>\nstartxref", "trailer\n<</Root 1 0 R>>\nstartxref",
		"trailer\n<</Size 2 /Root 1 0 R>>\nstartxref", "trailer\n<</Size 4 /Root 1 0 R>>\nstartxref", "trailer\n<</Size -3 /Root 1 0 R>>\nstartxref", "trailer\n<</Size 3. /Root 1 0 R>>\nstartxref", "trailer\n<</Size 3.0 /Root 1 0 R>>\nstartxref",
		"trailer\n<</Size 3 0 R /Root 1 0 R>>\nstartxref", "trailer\n<</Size (3) /Root 1 0 R>>\nstartxref", "trailer\n<</Size [3] /Root 1 0 R>>\nstartxref", "trailer\n<</Size 00000000003 /Root 1 0 R>>\nstartxref", "trailer\n<</Size 4294967299 /Root 1 0 R>>\nstartxref",
		"trailer\n<</Size 3 /Root 2 0 R>>\nstartxref", "trailer\n<</Size 3 /Root 3 0 R>>\nstartxref", "trailer\n<</Size 3 /Root 0 0 R>>\nstartxref", "trailer\n<</Size 3 /Root -1 0 R>>\nstartxref", "trailer\n<</Size 3 /Root 4294967297 0 R>>\nstartxref",
		"trailer\n<</Size 3 /Root 1>>\nstartxref", "trailer\n<</Size 3 /Root 1 0>>\nstartxref", "trailer\n<</Size 3 /Root 1 1 R>>\nstartxref", "trailer\n<</Size 3 /Root [1 0 R]>>\nstartxref", "trailer\n<</Size 3 /Root <<>>>>\nstartxref", "trailer\n<</Size 3 /Root /Root>>\nstartxref",
		"trailer\n<</Size 3 /Root 1 0 R /X 1>>\nstartxref", "trailer\n<</Size 3 /Size 3 /Root 1 0 R>>\nstartxref", "trailer\n<</Size 3 /Root 1 0 R /Root 1 0 R>>\nstartxref", "trailer\n<</Size 3 /Size 3>>\nstartxref", "trailer\n<</Root 1 0 R /Root 1 0 R>>\nstartxref",
		"trailer\n<</size 3 /Root 1 0 R>>\nstartxref", "trailer\n<</Size 3 /root 1 0 R>>\nstartxref", "trailer\n<<Size 3 /Root 1 0 R>>\nstartxref", "trailer\n[/Size 3 /Root 1 0 R]\nstartxref", "trailer\n/Size 3 /Root 1 0 R\nstartxref",
		"trailer\n<</Size 3 /Root 1 0 R>\nstartxref", "trailer\n<</Size 3 /Root 1 0 R\nstartxref", "trailer\n</Size 3 /Root 1 0 R>>\nstartxref", "trailer\n<</Size 3 /Root 1 0 R>> >>\nstartxref", "trailer\n<</Size 3 /Root 1 0 R>> null\nstartxref",
		"trailer\n<</Size 3 /Root 1 0 R>>\ntrailer\n<</Size 3 /Root 1 0 R>>\nstartxref", "trailer\n<</Size 3 /Root 1 0 R>>\nstartxrefs", "trailer\n<</Size 3 /Root 1 0 R>>\nxref", "trailer\n<</Size 3 /Root 1 0 R>>\n", "trailer\n<</Size 3 /Root 1 0 R>>\n%startxref",
		"trailer\n<</Size 3 /Root 1 0 R>>\nstartxref startxref", "trailer\n<</Size 3 /Root 1 0 R>>stream\n\nendstream\nstartxref", "%trailer\n<</Size 3 /Root 1 0 R>>\nstartxref", "trailer\n<</Size 3 /Root 1 0 R /Length 0>>stream\n\nendstream\nstartxref",
	} {
		checkPlaced(t, false, whole, now)
	}
}

func TestP6End(t *testing.T) {
	const whole = "startxref\n«xp»\n%%EOF\n"
	for _, now := range []string{
		"startxref\n«xp»\n%%EOF", "startxref\n«xp»\n%%EOF\r", "startxref\n«xp»\n%%EOF\r\n", "startxref\n«xp»\r%%EOF\n", "startxref\n«xp»\r\n%%EOF\n", "startxref «xp»\n%%EOF",
		"startxref%\r«xp»\r%%EOF\r", "startxref%%EOF\n%%EOF\n \x00\r\n«xp»\n%%EOF",
	} {
		checkPlaced(t, true, whole, now)
	}
	for _, now := range []string{
		"startxref\n«xp»\n%%EOF\n\n", "startxref\n«xp»\n%%EOF\n\r", "startxref\n«xp»\n%%EOF\r\r", "startxref\n«xp»\n%%EOF ", "startxref\n«xp»\n%%EOF \n", "startxref\n«xp»\n%%EOF\n ", "startxref\n«xp»\n%%EOF\n%", "startxref\n«xp»\n%%EOFx", "startxref\n«xp»\n%%EOF\r\n\n", "startxref\n«xp»\n%%EOF\x00", "startxref\n«xp»\n%%EOF\n%%EOF\n",
		"startxref\n«xp»\n%%eof\n", "startxref\n«xp»\n%%EO", "startxref\n«xp»\n%EOF\n", "startxref\n«xp»\n%%%EOF\n", "startxref\n«xp»\n% %EOF\n", "startxref\n«xp»\n", "startxref\n«xp»", "startxref\n", "startxref", "",
		"startxref\n«xp»\n\n%%EOF\n", "startxref\n«xp»\n\r%%EOF\n", "startxref\n«xp»\r\r%%EOF\n", "startxref\n«xp» \n%%EOF\n", "startxref\n«xp»\n %%EOF\n", "startxref\n«xp» %%EOF\n", "startxref\n«xp»%%EOF\n", "startxref\n«xp»%\n%%EOF\n", "startxref\n«xp»\r\n\n%%EOF\n", "startxref\n«xp»\x00%%EOF\n", "startxref\n«xp»\f%%EOF\n",
		"startxref\n0«xp»\n%%EOF\n", "startxref\n+«xp»\n%%EOF\n", "startxref\n-«xp»\n%%EOF\n", "startxref\n«xp».\n%%EOF\n", "startxref\n«xp»0\n%%EOF\n", "startxref\n1«xp»\n%%EOF\n", "startxref\n(«xp»)\n%%EOF\n", "startxref\n«xp» 0 R\n%%EOF\n",
		"startxref«xp»\n%%EOF\n", "startxref\n%%EOF\n", "startxref\n0\n%%EOF\n", "startxref\n9\n%%EOF\n", "startxref%\n%%EOF\n",
	} {
		checkPlaced(t, false, whole, now)
	}
	for n := 1; n < 100; n += 7 {
		file := placed(t, "«xp»", fmt.Sprint(n))
		checkNoRead(t, api.ErrFile, 0, file)
	}
}

// TestP6CutShort: no beginning of a file is one, but for the last line's end; nor one with a byte left out ahead of the trailer,
// as what comes behind is at other places then.
func TestP6CutShort(t *testing.T) {
	file := laid(1, "<</A[1 0 R(s)<41>/N 1.5 true]>>", "<</Length 5/Filter/ASCIIHexDecode>>stream\n4869>\nendstream")
	want := rooted(1, dict("A", array(refer(1), quoted("s"), quoted("A"), name("N"), realNumber(15, 1), api.Value{Kind: api.Bool, N: 1})), stream(dict(), "Hi", 1))
	checkRead(t, file, 9, want)
	checkRead(t, file[:len(file)-1], 9, want)
	for long := range len(file) - 1 {
		checkNoRead(t, api.ErrFile, 9, file[:long])
	}
	for i := range strings.Index(file, "\ntrailer") {
		checkNoRead(t, api.ErrFile, 9, file[:i]+file[i+1:])
	}
}

func checkUnpacked(t *testing.T, text string, most int, want string, wrong api.Errno) {
	t.Helper()
	d, e := folio.Read([]byte(laid(1, "<<>>", text)), most)
	got := ""
	if len(d.Objects) == 2 {
		got = d.Objects[1].Text
	}
	if e != wrong || got != want || (e == api.OK) != (len(d.Objects) == 2) {
		t.Errorf("Read of %.300q, %d: %.100q, %d, want %.100q, %d", text, most, got, e, want, wrong)
	}
}

// TestP6StreamWords: a stream's bytes stand between just these.
func TestP6StreamWords(t *testing.T) {
	for _, text := range []string{
		"<</Length 2>>stream\nHi\nendstream", "<</Length 2>>stream\r\nHi\nendstream", "<</Length 2>>\nstream\nHi\nendstream", "<</Length 2>> % x\n stream\nHi\nendstream", "<</Length 2>>stream\nHi\nendstream%\n",
		"<</Length +2>>stream\nHi\nendstream", "<</Length 0000000002>>stream\nHi\nendstream", "<</L#65ngth 2>>stream\nHi\nendstream", "<</Length 2/Filter[]>>stream\nHi\nendstream", "<</Filter[%\n]/Length%\n2>>stream\nHi\nendstream",
	} {
		checkUnpacked(t, text, 2, "Hi", api.OK)
	}
	for _, text := range []string{
		"<</Length 2>>stream\rHi\nendstream", "<</Length 2>>stream \nHi\nendstream", "<</Length 2>>stream\n\rHi\nendstream", "<</Length 2>>streamHi\nendstream", "<</Length 2>>stream%\nHi\nendstream", "<</Length 2>>stream\t\nHi\nendstream", "<</Length 2>>streams\nHi\nendstream", "<</Length 2>>Stream\nHi\nendstream", "<</Length 2>>stream Hi\nendstream",
		"<</Length 1>>stream\nHi\nendstream", "<</Length 3>>stream\nHi\nendstream", "<</Length 2>>stream\nHiendstream", "<</Length 2>>stream\nHi\r\nendstream", "<</Length 2>>stream\nHi\rendstream", "<</Length 2>>stream\nHi\n\nendstream", "<</Length 2>>stream\nHi\n endstream", "<</Length 2>>stream\nHi\n%\nendstream", "<</Length 2>>stream\nHi endstream",
		"<</Length 2>>stream\nHi\nendstreams", "<</Length 2>>stream\nHi\nEndstream", "<</Length 2>>stream\nHi\nendstrea", "<</Length 2>>stream\nHi\n", "<</Length 2>>stream\nHi\nendobj", "<</Length 2>>stream\nHi\n/endstream", "<</Length 2>>stream\nHi\nendstream 1", "<</Length 2>>stream\nHi\nendstream endstream", "<</Length 2>>stream\nHi\nendstream>>", "<</Length 2>>stream",
		"[]stream\nHi\nendstream", "null stream\nHi\nendstream", "1 stream\n\nendstream", "[/Length 2]stream\nHi\nendstream", "[<</Length 2>>stream\nHi\nendstream]", "<</A<</Length 2>>stream\nHi\nendstream>>", "<</Length 2>><<>>stream\nHi\nendstream", "stream\n\nendstream", "<</Length 2>>/stream\nHi\nendstream", "<</Length 2>>1 stream\nHi\nendstream",
	} {
		checkUnpacked(t, text, 9, "", api.ErrFile)
	}
	checkNoRead(t, api.ErrFile, 9, strings.Replace(laid(1, "<<>>", "<</Length 2>>stream\nHi\nendstream"), "endstream\nendobj", "endstreamendobj ", 1))
}

func TestP6Lengths(t *testing.T) {
	const tail = ">>stream\nHi\nendstream"
	for _, head := range []string{
		"<<", "<</length 2", "<</Len 2", "<</Length 2/Length 2", "<</Length 2/A 1/L#65ngth 2", "<</Length 3/Length 2", "<</Length 1 0 R", "<</Length -2", "<</Length 2.0", "<</Length 2.", "<</Length (2)", "<</Length [2]", "<</Length null", "<</Length /2", "<</Length true",
		"<</Length 4294967298", "<</Length 9999999999", "<</Length -9999999999", "<</Length 2147483647", "<</Length -2147483648", "<</Length 00000000002", "<</Length 200000", "<</Length 99999", "<</Length -1", "<</Length", "<</A/Length 2",
		"<</Length 2/DecodeParms null", "<</Length 2/DecodeParms<<>>", "<</Length 2/Filter/ASCIIHexDecode/DecodeParms[]", "<</Decode#50arms 1/Length 2", "<</Length 2/A 1/A 1", "<</Length 2/A", "<</Length 2/A 2 0 R 1", "<</Length 2/A 3 0 R", "<</Length 2/A 2147483648", "<</Length 2/A<</Length 2>>stream\nHi\nendstream",
		"<</Length 2/" + strings.Repeat("k", 61) + " 1", "<</Length 2/A(" + same(4001) + ")",
	} {
		checkUnpacked(t, head+tail, 9, "", api.ErrFile)
	}
	for _, text := range []string{"<</Length 0>>stream\n\nendstream", "<</Length -0>>stream\n\nendstream", "<</Length 0000000000>>stream\r\n\nendstream"} {
		checkUnpacked(t, text, 0, "", api.OK)
	}
	for _, text := range []string{"\n", "\r\n", "\r", "\n\n", "\nendstream", "endstream\nendobj\n", "%", "\x00", "Hi\nendstream\nendobj\nxref\n", ")>>", "\xff\xfe"} {
		for _, begin := range []string{"\n", "\r\n"} {
			file := laid(1, "<<>>", fmt.Sprintf("<</Length %d>>stream%s%s\nendstream", len(text), begin, text))
			checkRead(t, file, len(text), beside(stream(dict(), text)))
			checkNoRead(t, api.ErrCap, len(text)-1, file)
		}
	}
}

// TestP6StreamKeys: what is in the dictionary beside Length and Filter stays, in its order.
func TestP6StreamKeys(t *testing.T) {
	check := func(head string, want api.Value) {
		t.Helper()
		checkRead(t, laid(1, "<<>>", head+"stream\n4869>\nendstream"), 9, beside(want))
	}
	plain := func(head api.Value) api.Value { return stream(head, "4869>") }
	check("<</Length 5>>", plain(dict()))
	check("<</K[]/Length 5>>", plain(dict("K", array())))
	check("<</Length 5/K[]>>", plain(dict("K", array())))
	check("<</Z 1/Length 5/A<</Length 7/Filter 8>>/Filter[]/M 2 0 R>>", plain(dict("Z", integer(1), "A", dict("Length", integer(7), "Filter", integer(8)), "M", refer(2))))
	check("<</Z 1/Filter/ASCIIHexDecode/A 2/Length 5/M 3>>", stream(dict("Z", integer(1), "A", integer(2), "M", integer(3)), "Hi", 1))
	check("<</filter 1/length 2/decodeparms 3/Length 5/ 4/F 5>>", plain(dict("filter", integer(1), "length", integer(2), "decodeparms", integer(3), "", integer(4), "F", integer(5))))
	check("<</A<</DecodeParms 1>>/Length 5>>", plain(dict("A", dict("DecodeParms", integer(1)))))
}

func TestP6Filters(t *testing.T) {
	pack := func(text string, list ...int) string {
		out := []byte(text)
		for i := len(list) - 1; i >= 0; i-- {
			out, _ = folio.Encode(list[i], out)
		}
		return string(out)
	}
	names := []string{"", "ASCIIHexDecode", "ASCII85Decode", "RunLengthDecode", "FlateDecode"}
	check := func(filter, data string, want api.Value) {
		t.Helper()
		checkRead(t, laid(1, "<<>>", fmt.Sprintf("<</Length %d/Filter%s>>stream\n%s\nendstream", len(data), filter, data)), 999, beside(want))
	}
	for a := 1; a <= 4; a++ {
		check("/"+names[a], pack("Hi", a), stream(dict(), "Hi", a))
		check("[/"+names[a]+"]", pack("Hi", a), stream(dict(), "Hi", a))
		check(" [ %\n/"+names[a]+"\x00]", pack("", a), stream(dict(), "", a))
		check(strings.Replace("/"+names[a], "D", "#44", 1), pack("Hi", a), stream(dict(), "Hi", a))
		for b := 1; b <= 4; b++ {
			check("[/"+names[a]+"/"+names[b]+"]", pack("Hi", a, b), stream(dict(), "Hi", a, b))
			check("[/"+names[a]+" /"+names[b]+"/"+names[a]+"/"+names[b]+"]", pack(varied(100), a, b, a, b), stream(dict(), varied(100), a, b, a, b))
		}
	}
	for _, filter := range []string{
		"/AHx", "/ASCIIHex", "/asciihexdecode", "/ASCIIHexDecodes", "/LZWDecode", "/", "/Fl", "(ASCIIHexDecode)", " null", " 1", " 1.0", " true", "<<>>", "<</ASCIIHexDecode 1>>", " 1 0 R", " ASCIIHexDecode", "",
		"[(ASCIIHexDecode)]", "[1]", "[null]", "[[]]", "[[/ASCIIHexDecode]]", "[/ASCIIHexDecode/AHx]", "[/ASCIIHexDecode null]", "[1 0 R]", "[/]", "[<<>>]", "[/ASCIIHexDecode", "/ASCIIHexDecode/ASCIIHexDecode", "[ASCIIHexDecode]",
		"[" + strings.Repeat("/ASCIIHexDecode", 5) + "]", "[" + strings.Repeat("/ASCIIHexDecode", 100) + "]", "/ASCIIHexDecode/Filter/ASCIIHexDecode", "[]/Filter[]", "[]/F#69lter/ASCIIHexDecode",
	} {
		checkUnpacked(t, "<</Length 5/Filter"+filter+">>stream\n4869>\nendstream", 99, "", api.ErrFile)
	}
	four := pack("Hi", 1, 1, 1, 1)
	check("["+strings.Repeat("/ASCIIHexDecode", 4)+"]", four, stream(dict(), "Hi", 1, 1, 1, 1))
}

// TestP6Unpacking: each filter gives up as Decode does, with all that is left for what comes out of it.
func TestP6Unpacking(t *testing.T) {
	const hexed, runned = "/ASCIIHexDecode", "/RunLengthDecode"
	check := func(filters, data string, most int, want string, wrong api.Errno) {
		t.Helper()
		checkUnpacked(t, fmt.Sprintf("<</Length %d/Filter[%s]>>stream\n%s\nendstream", len(data), filters, data), most, want, wrong)
	}
	check(hexed, "4869>", 2, "Hi", api.OK)
	check(hexed, "4869>", 1, "", api.ErrCap)
	check(hexed, "4869>", 0, "", api.ErrCap)
	check(hexed, "4869", 9, "", api.ErrData)
	check(hexed, "4869>x", 2, "", api.ErrData)
	check(hexed, "4869>x", 1, "", api.ErrCap)
	check(hexed, "", 9, "", api.ErrData)
	check("/FlateDecode", "x\x9cK\x04\x00\x00b\x00b", 1, "a", api.OK)
	check("/FlateDecode", "x\x9cK\x04\x00\x00b\x00b", 0, "", api.ErrCap)
	check("/FlateDecode", "x\x9cK\x04\x00\x00b\x00c", 9, "", api.ErrData)
	check(hexed+runned, "01486980>", 4, "Hi", api.OK)
	check(hexed+runned, "01486980>", 3, "", api.ErrCap)
	check(hexed+runned, "014869>", 9, "", api.ErrData)
	check(hexed+runned, "014869>", 2, "", api.ErrCap)
	check(hexed+runned, "01486980", 9, "", api.ErrData)
	check(hexed+runned, "8161 80>", 128, same(128), api.OK)
	check(hexed+runned, "8161 80>", 127, "", api.ErrCap)
	check(hexed+runned, "8161", 127, "", api.ErrData)
	check(runned+hexed, "\x044869>\x80", 5, "Hi", api.OK)
	check(runned+hexed, "\x044869>\x80", 4, "", api.ErrCap)
	check(runned+hexed, "\x044869x\x80", 9, "", api.ErrData)
	check(hexed+hexed, "3438 3639 3e>", 5, "Hi", api.OK)
	check(hexed+hexed, "3438 3639 3e>", 4, "", api.ErrCap)
	check(hexed+hexed, "3438 3639>", 9, "", api.ErrData)
	check(hexed+hexed+hexed, "33 33 3e>", 9, "", api.ErrData)
	check(hexed+hexed+hexed, "33 33 33 65 3e>", 9, "0", api.OK)
}

// TestP6MostData: more than may be in a stream may come out on the way, but not at the end.
func TestP6MostData(t *testing.T) {
	plain := func(long int) string { return fmt.Sprintf("<</Length %d>>stream\n%s\nendstream", long, same(long)) }
	checkUnpacked(t, plain(20000), 20000, same(20000), api.OK)
	checkUnpacked(t, plain(20000), 19999, "", api.ErrCap)
	checkUnpacked(t, plain(20001), 20001, "", api.ErrFile)
	checkUnpacked(t, plain(20001), api.MaxCap, "", api.ErrFile)
	checkUnpacked(t, plain(20001), 20000, "", api.ErrCap)
	packed := func(text string, list ...int) string { return streamByHand(stream(dict(), text, list...)) }
	for filter := api.Hex; filter <= api.Flate; filter++ {
		checkUnpacked(t, packed(same(20000), filter), 20000, same(20000), api.OK)
		checkUnpacked(t, packed(same(20000), filter), 19999, "", api.ErrCap)
		checkUnpacked(t, packed(same(20001), filter), 20001, "", api.ErrFile)
		checkUnpacked(t, packed(same(20001), filter), 20000, "", api.ErrCap)
	}
	checkUnpacked(t, packed(same(20000), 4, 1, 1, 1), 160007, same(20000), api.OK)
	checkUnpacked(t, packed(same(20000), 4, 1, 1, 1), 160006, "", api.ErrCap)
	checkUnpacked(t, packed(same(20001), 4, 1, 1, 1), 160015, "", api.ErrFile)
}

// TestP6MuchOnTheWay: however many bytes go into a filter that is not the first.
func TestP6MuchOnTheWay(t *testing.T) {
	var packed bytes.Buffer
	w := zlib.NewWriter(&packed)
	w.Write([]byte(strings.Repeat(" ", api.MaxCap-5) + "4869>"))
	w.Close()
	text := fmt.Sprintf("<</Length %d/Filter[/FlateDecode/ASCIIHexDecode]>>stream\n%s\nendstream", packed.Len(), packed.String())
	checkUnpacked(t, text, api.MaxCap, "Hi", api.OK)
	checkUnpacked(t, text, api.MaxCap-1, "", api.ErrCap)
}

// TestP6Left: each stream leaves the next ones less by what came out of it at the end, and not by what came on the way.
func TestP6Left(t *testing.T) {
	const (
		two    = "<</Length 2>>stream\nHi\nendstream"
		one    = "<</Length 3/Filter/ASCIIHexDecode>>stream\n41>\nendstream"
		onWay  = "<</Length 9/Filter[/ASCIIHexDecode/RunLengthDecode]>>stream\n01486980>\nendstream" // 4 on the way, 2 at the end
		none   = "<</Length 0>>stream\n\nendstream"
		broken = "<</Length 1/Filter/ASCIIHexDecode>>stream\nx\nendstream"
	)
	huge := "<</Length 20001>>stream\n" + same(20001) + "\nendstream"
	for _, c := range []struct {
		texts []string
		least int // with less: ErrCap
		e     api.Errno
	}{
		{[]string{none}, 0, api.OK},
		{[]string{two}, 2, api.OK},
		{[]string{two, one}, 3, api.OK},
		{[]string{one, two}, 3, api.OK},
		{[]string{two, none, one, none}, 3, api.OK},
		{[]string{onWay}, 4, api.OK},
		{[]string{onWay, two}, 4, api.OK},
		{[]string{onWay, two, one}, 5, api.OK},
		{[]string{two, onWay}, 6, api.OK},
		{[]string{onWay, onWay}, 6, api.OK},
		{[]string{onWay, onWay, onWay}, 8, api.OK},
		{[]string{broken}, 0, api.ErrData},
		{[]string{two, broken}, 2, api.ErrData},
		{[]string{two, one, broken}, 3, api.ErrData},
		{[]string{broken, two}, 0, api.ErrData},
		{[]string{broken, huge}, 0, api.ErrData},
		{[]string{huge, broken}, 20001, api.ErrFile},
		{[]string{two, huge}, 20003, api.ErrFile},
	} {
		for most := range 30 {
			checkLeft(t, c.texts, most, c.least, c.e)
		}
		for most := c.least - min(c.least, 3); most < c.least+3; most++ {
			checkLeft(t, c.texts, most, c.least, c.e)
		}
		checkLeft(t, c.texts, api.MaxCap, c.least, c.e)
	}
}

func checkLeft(t *testing.T, texts []string, most, least int, want api.Errno) {
	t.Helper()
	if most < least {
		want = api.ErrCap
	}
	for _, all := range [][]string{append([]string{"<<>>"}, texts...), append([]string{"<<>>", "[1 0 R]"}, texts...)} {
		d, e := folio.Read([]byte(laid(1, all...)), most)
		if e != want || (e == api.OK) != (len(d.Objects) == len(all)) {
			t.Errorf("Read of %.200q, %d: %d, want %d", all, most, e, want)
		}
	}
}

// TestP6FirstError: all that is wrong but the streams' bytes is told ahead of them, wherever it stands.
func TestP6FirstError(t *testing.T) {
	const (
		broken = "<</Length 1/Filter/ASCIIHexDecode>>stream\nx\nendstream"
		two    = "<</Length 2>>stream\nHi\nendstream"
	)
	checkNoRead(t, api.ErrData, 0, laid(1, "<<>>", broken), laid(1, "<<>>", broken, two), laid(3, broken, two, "<<>>"))
	checkNoRead(t, api.ErrCap, 0, laid(1, "<<>>", two), laid(1, "<<>>", two, broken))
	for _, first := range []string{broken, two} {
		checkNoRead(t, api.ErrFile, 0,
			laid(1, "<<>>", first, "[4 0 R]"), laid(1, "<<>>", first, "[[]"), laid(1, "<<>>", first, "2147483648"), laid(1, "<<>>", first, "<</Length 2>>stream\nHi\nends"),
			laid(2, "<<>>", first), laid(3, "<<>>", first), laid(1, "<<>>", first, "<</A 1/A 1>>"), laid(1, "<<>>", first, "["+strings.Repeat("1 ", 1998)+"]"),
			laid(1, "<<>>", first)+" ", strings.Replace(laid(1, "<<>>", first), "%%EOF", "%%EOG", 1), strings.Replace(laid(1, "<<>>", first), "65535", "65534", 1),
			laid(1, "<<>>", first, "<</Length 1/Filter/Ascii>>stream\nx\nendstream"), laid(1, "<<>>", strings.Replace(first, "/Length", "/DecodeParms 1/Length", 1)))
	}
}
