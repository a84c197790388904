package folio_test

import (
	"fmt"
	"math"
	"math/rand"
	"reflect"
	"strings"
	"testing"

	"folio/api"
	"folio/folio"
)

// TestP1ReadAnything reads bytes and numbers of all sorts: a panic, or one that never ends, would end the test.
func TestP1ReadAnything(t *testing.T) {
	r := rand.New(rand.NewSource(1))
	numbers := []int{math.MinInt, -1, 0, 1, 9, api.MaxCap, api.MaxCap + 1, math.MaxInt}
	for range 3000 {
		data := randomBytes(r, 300)
		for _, most := range numbers {
			for _, file := range []string{string(data), "%PDF-1.4\n" + string(data), laid(1, "<<>>", string(data))} {
				d, e := folio.Read([]byte(file), most)
				if e != api.OK && (d.Root != 0 || len(d.Objects) > 0) {
					t.Fatalf("Read(%q, %d): %#v beside the error %d", file, most, d, e)
				}
			}
		}
	}
	if _, e := folio.Read(nil, 0); e != api.ErrFile {
		t.Errorf("Read of nil: %d", e)
	}
}

// TestP1ReadMuch has as much of one thing as a file has room for.
func TestP1ReadMuch(t *testing.T) {
	for _, part := range []string{
		"[", "]", "<<", ">>", "<", ">", "(", ")", "/", "{", "%", "% ", "%\n", " ", "\n", "\\", "0", "1 ", "1 0 ", "1 0 R ", "0 0 ", "0%\n", "1%\n0%\n", ".", "+", "a", "a ", "/A ", "/A 1", "/A<<", "<</A", "[<<", "[]", "()", "<>", "<<>>", "(\\", "\x00", "\xff",
		"1 0 obj ", "1 0 obj<<>>endobj ", "endobj ", "xref\n", "trailer ", "stream\n", "endstream ", "/Length 0", "<</Length 0>>stream\n\nendstream ",
	} {
		much := strings.Repeat(part, 199000/len(part))
		for _, file := range []string{
			much, "%PDF-1.4\n" + much, laid(1, "<<>>", much), laid(1, "<<>>", "["+much+"]"), laid(1, "<<>>", "("+much+")"), laid(1, "<<"+much+">>"), laid(1, "<<>>", "<</A "+much+">>stream\n\nendstream"),
			strings.Replace(laid(1, "<<>>"), "trailer", much+"trailer", 1), strings.Replace(laid(1, "<<>>"), "/Size", much+"/Size", 1), laid(1, "<<>>") + much,
		} {
			for _, most := range []int{0, api.MaxCap} {
				if _, e := folio.Read([]byte(file), most); e != api.OK && e != api.ErrFile && e != api.ErrCap {
					t.Errorf("Read of %d bytes of %q: %d", len(file), part, e)
				}
			}
		}
	}
}

// TestP1ManyObjects: a file numbers its objects on, even where there are more than a document can have.
func TestP1ManyObjects(t *testing.T) {
	texts := make([]string, 3000)
	for i := range texts {
		texts[i] = "<<>>"
	}
	checkNoRead(t, api.ErrFile, 0, laid(1, texts...), laid(3000, texts...), laid(101, texts[:101]...))
}

func filesOfP2() []string {
	all := []string{
		"", "no file", laid(1, "<<>>"), laid(1, "[]"), laid(1, "<</A[1(s)<41>/N<</B 1 0 R>>]/B[]/C<<>>>>", "[[][[]]]", "(s)", "/N", "1.5", "1 0 R", "null"),
		laid(1, "<<>>", "<</K[1]/Length 9/L[2]/Filter[/ASCIIHexDecode/RunLengthDecode]/M[3]>>stream\n01486980>\nendstream", "<</Length 2>>stream\nHi\nendstream", "<</Length 9/Filter/FlateDecode>>stream\nx\x9cK\x04\x00\x00b\x00b\nendstream"),
		laid(1, "<<>>", "<</Length 1/Filter/ASCIIHexDecode>>stream\nx\nendstream"),
	}
	r := rand.New(rand.NewSource(2))
	m, s := &maker{Rand: r}, &scribe{r, 9}
	for range 300 {
		d := m.document()
		all = append(all, s.file(d.Root, s.objects(d)))
	}
	return all
}

// room is where a list stands, with its spare room.
type room struct{ begin, end uintptr }

func roomOf(list any) room {
	v := reflect.ValueOf(list)
	return room{v.Pointer(), v.Pointer() + uintptr(v.Cap())*v.Type().Elem().Size()}
}

func roomsOf(values []api.Value) []room {
	rooms := []room{roomOf(values)}
	for _, v := range values {
		rooms = append(rooms, roomOf(v.Keys), roomOf(v.Filters))
		rooms = append(rooms, roomsOf(v.Items)...)
	}
	return rooms
}

// TestP2ReadSharesNothing: no two lists of one answer have memory in common, nor of two answers.
func TestP2ReadSharesNothing(t *testing.T) {
	for _, file := range filesOfP2() {
		first, _ := folio.Read([]byte(file), api.MaxCap)
		again, _ := folio.Read([]byte(file), api.MaxCap)
		rooms := append(roomsOf(first.Objects), roomsOf(again.Objects)...)
		for i, a := range rooms {
			for _, b := range rooms[:i] {
				if a.begin < b.end && b.begin < a.end {
					t.Fatalf("Read(%q): lists share memory", file)
				}
			}
		}
	}
}

func spoilValues(values []api.Value) {
	values = values[:cap(values)]
	for i := range values {
		keys, filters := values[i].Keys, values[i].Filters
		for k := range keys[:cap(keys)] {
			keys[:cap(keys)][k] = "spoilt"
		}
		for k := range filters[:cap(filters)] {
			filters[:cap(filters)][k] = 77
		}
		spoilValues(values[i].Items)
		values[i] = quoted("spoilt")
	}
}

func TestP2ReadKeepsNothing(t *testing.T) {
	for _, file := range filesOfP2() {
		g := guard(file)
		first, wrong := folio.Read(g.data, api.MaxCap)
		g.check(t, "Read")
		kept := fmt.Sprintf("%#v", first)
		spoilValues(first.Objects)
		g.check(t, "Read")
		second, e := folio.Read(g.data, api.MaxCap)
		if e != wrong || fmt.Sprintf("%#v", second) != kept {
			t.Fatalf("Read(%q) again: %#v, %d, want %s, %d", file, second, e, kept, wrong)
		}
		spoil(g.all)
		if fmt.Sprintf("%#v", second) != kept {
			t.Fatalf("Read(%q) shares memory with its argument", file)
		}
	}
}

// TestP2ReadNotBehind: the bytes behind those handed in do not belong to them.
func TestP2ReadNotBehind(t *testing.T) {
	file := []byte(laid(1, "<<>>", "<</Length 2>>stream\nHi\nendstream"))
	for long := range len(file) - 1 {
		if _, e := folio.Read(file[:long], 9); e != api.ErrFile {
			t.Errorf("Read of %d bytes: %d", long, e)
		}
	}
	if _, e := folio.Read(append(file, "more"...)[:len(file)], 9); e != api.OK {
		t.Errorf("Read looked behind its bytes: %d", e)
	}
}

// TestP2ReadErrorsLeaveNothing has a right file behind each sort of wrong one.
func TestP2ReadErrorsLeaveNothing(t *testing.T) {
	right := laid(1, "<<>>", "<</Length 5/Filter/ASCIIHexDecode>>stream\n4869>\nendstream")
	want := beside(stream(dict(), "Hi", 1))
	for e, file := range map[api.Errno]string{
		api.ErrFile: laid(1, "<</A[(x"), api.ErrLong: strings.Repeat(" ", api.MaxFile+1), api.ErrCap: laid(1, "<<>>", "<</Length 3>>stream\nabc\nendstream"),
		api.ErrData: laid(1, "<<>>", "<</Length 2>>stream\nHi\nendstream", "<</Length 2/Filter/FlateDecode>>stream\nHi\nendstream"),
	} {
		checkNoRead(t, e, 2, file)
		checkRead(t, right, 2, want)
	}
	checkNoRead(t, api.ErrArg, -1, right)
	checkRead(t, right, 2, want)
}

func checkReadBack(t *testing.T, d api.Document) {
	t.Helper()
	file, e := folio.Write(d)
	if e != api.OK {
		t.Fatalf("Write(%.300s): %d", fmt.Sprint(d), e)
	}
	checkRead(t, string(file), api.MaxCap, d)
	again, e := folio.Read(file, api.MaxCap)
	second, wrong := folio.Write(again)
	if e != api.OK || wrong != api.OK || string(second) != string(file) {
		t.Errorf("Write of Read of Write(%.300s): %d, %d, %d bytes, not the %d that were", fmt.Sprint(d), e, wrong, len(second), len(file))
	}
}

func TestP7ReadOfWrite(t *testing.T) {
	m := &maker{Rand: rand.New(rand.NewSource(7))}
	for range 3000 {
		checkReadBack(t, m.document())
	}
}

// TestP7Edges has documents at each limit.
func TestP7Edges(t *testing.T) {
	everyByte := ""
	for b := range 256 {
		everyByte += string([]byte{byte(b)})
	}
	for _, v := range []api.Value{
		{}, {Kind: api.Bool}, {Kind: api.Bool, N: 1}, integer(math.MinInt32), integer(math.MaxInt32), integer(0),
		realNumber(0, 0), realNumber(10, 0), realNumber(-999999999, 0), realNumber(999999999, 5), realNumber(-1, 5), realNumber(-999999999, 1),
		name(""), name(everyByte[1:61]), name(everyByte[61:121]), name(everyByte[121:181]), name(everyByte[181:241]), name(everyByte[241:]), name("#41"),
		quoted(""), quoted(everyByte), quoted(strings.Repeat("\r\n", 2000)), quoted(strings.Repeat("(\\", 2000)), quoted(zeros(4000)), quoted("\x001\x012"), quoted(")("), quoted("\\"),
		array(), dict(), deep(11, array()), dict("", dict("", dict("A", array(refer(1), integer(0), integer(0), refer(2), integer(1), integer(0))))),
		dict("Length", integer(1), "Filter", name("x"), "DecodeParms", api.Value{}), nulls(1998), refer(1), refer(2),
	} {
		checkReadBack(t, beside(v))
		if nodesOf(v) < 1900 && depthOf(v) < 12 {
			checkReadBack(t, beside(array(v, v)))
			checkReadBack(t, beside(stream(dict("A", v), everyByte, 4)))
		}
	}
	checkReadBack(t, beside(stream(keyed(1998), "", 1, 2, 3, 4)))
	checkReadBack(t, sized(4000))
	all := make([]api.Value, api.MaxObjects)
	for i := range all {
		all[i] = dict("N", refer(api.MaxObjects-i))
	}
	checkReadBack(t, rooted(100, all...))
}

// TestP7Streams packs each way, as long a text as may be.
func TestP7Streams(t *testing.T) {
	texts := []string{"", "x", "\n", "\r\n", "\nendstream\nendobj\n", ">", "~>", "\x80", zeros(5), varied(3000)}
	for a := range 5 {
		for b := range 5 {
			for c := range 5 {
				var list []int
				for _, filter := range []int{a, b, c} {
					if filter > 0 {
						list = append(list, filter)
					}
				}
				for _, text := range texts {
					checkReadBack(t, beside(stream(dict(), text, list...)))
				}
			}
		}
	}
	for _, text := range []string{same(20000), zeros(20000), varied(20000), mixed(20000)} {
		for _, list := range [][]int{{}, {1}, {2}, {3}, {4}, {1, 1, 1}, {4, 1, 1, 1}, {2, 2, 2, 2}, {3, 3, 3, 3}, {4, 4, 4, 4}, {4, 3, 2, 1}, {1, 2, 3, 4}} {
			checkReadBack(t, beside(stream(dict(), text, list...)))
		}
	}
}

// TestP7Longest: a file of just as many bytes as may be is read as well.
func TestP7Longest(t *testing.T) {
	file, _ := folio.Write(sized(5000))
	fits := sized(5000 + api.MaxFile - len(file))
	file, e := folio.Write(fits)
	if e != api.OK || len(file) != api.MaxFile {
		t.Fatalf("Write: %d bytes, %d", len(file), e)
	}
	checkReadBack(t, fits)
}
