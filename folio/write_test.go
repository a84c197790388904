package folio_test

import (
	"fmt"
	"math"
	"strings"
	"testing"

	"folio/api"
	"folio/folio"
)

func integer(n int) api.Value { return api.Value{Kind: api.Int, N: n} }

func realNumber(n, places int) api.Value { return api.Value{Kind: api.Real, N: n, Places: places} }

func name(text string) api.Value { return api.Value{Kind: api.Name, Text: text} }

func quoted(text string) api.Value { return api.Value{Kind: api.String, Text: text} }

func refer(n int) api.Value { return api.Value{Kind: api.Ref, N: n} }

func array(items ...api.Value) api.Value { return api.Value{Kind: api.Array, Items: items} }

// dict has the keys and values in turn.
func dict(pairs ...any) api.Value {
	v := api.Value{Kind: api.Dict}
	for i := 0; i < len(pairs); i += 2 {
		v.Keys = append(v.Keys, pairs[i].(string))
		v.Items = append(v.Items, pairs[i+1].(api.Value))
	}
	return v
}

func stream(head api.Value, text string, filters ...int) api.Value {
	return api.Value{Kind: api.Stream, Keys: head.Keys, Items: head.Items, Text: text, Filters: filters}
}

func rooted(root int, objects ...api.Value) api.Document {
	return api.Document{Objects: objects, Root: root}
}

// beside has the value as an object of its own, and another one as the root.
func beside(v api.Value) api.Document { return rooted(1, dict(), v) }

func checkWritten(t *testing.T, d api.Document, want string) {
	t.Helper()
	got, e := folio.Write(d)
	if e != api.OK || string(got) != want {
		t.Errorf("Write(%.200s) = %d,\n%.2000q, want\n%.2000q", fmt.Sprint(d), e, got, want)
	}
}

// checkValue looks at the value as an object alone, in an array, and in a dictionary.
func checkValue(t *testing.T, v api.Value, want string) {
	t.Helper()
	for _, c := range []struct {
		v    api.Value
		want string
	}{
		{v, want},
		{array(v), "[" + want + "]"},
		{array(v, v, v), "[" + want + " " + want + " " + want + "]"},
		{dict("K", v), "<</K " + want + ">>"},
		{dict("K", v, "L", v), "<</K " + want + " /L " + want + ">>"},
	} {
		got, e := folio.Write(beside(c.v))
		ahead := "%PDF-1.4\n1 0 obj\n<<>>\nendobj\n2 0 obj\n" + c.want + "\nendobj\nxref\n"
		if e != api.OK || !strings.HasPrefix(string(got), ahead) {
			t.Errorf("Write of %.200s: %d, %.300q, want %.300q", fmt.Sprint(c.v), e, got, ahead)
		}
	}
}

func checkErrors(t *testing.T, want api.Errno, documents ...api.Document) {
	t.Helper()
	for i, d := range documents {
		got, e := folio.Write(d)
		if e != want || (e == api.OK) != (len(got) > 0) {
			t.Errorf("case %d: Write: %d bytes, %d, want %d", i, len(got), e, want)
		}
	}
}

func TestP5Example(t *testing.T) {
	checkWritten(t, rooted(1, dict()), "%PDF-1.4\n1 0 obj\n<<>>\nendobj\nxref\n0 2\n0000000000 65535 f \n0000000009 00000 n \n"+
		"trailer\n<</Size 2 /Root 1 0 R>>\nstartxref\n29\n%%EOF\n")
}

func TestP5Words(t *testing.T) {
	checkValue(t, api.Value{}, "null")
	checkValue(t, api.Value{Kind: api.Bool}, "false")
	checkValue(t, api.Value{Kind: api.Bool, N: 1}, "true")
	checkValue(t, refer(1), "1 0 R")
	checkValue(t, refer(2), "2 0 R")
	for n, want := range map[int]string{0: "0", 1: "1", -1: "-1", 10: "10", 2147483647: "2147483647", -2147483648: "-2147483648"} {
		checkValue(t, integer(n), want)
	}
}

func TestP5Reals(t *testing.T) {
	for _, c := range []struct {
		n, places int
		want      string
	}{
		{0, 0, "0.0"}, {3, 0, "3.0"}, {-3, 0, "-3.0"}, {10, 0, "10.0"}, {-3000, 0, "-3000.0"},
		{125, 1, "12.5"}, {-5, 2, "-0.05"}, {5, 1, "0.5"}, {-5, 1, "-0.5"}, {15, 1, "1.5"}, {105, 1, "10.5"}, {1001, 2, "10.01"},
		{1, 2, "0.01"}, {1, 3, "0.001"}, {-1, 4, "-0.0001"}, {1, 5, "0.00001"}, {-12, 5, "-0.00012"}, {99999, 5, "0.99999"},
		{100001, 5, "1.00001"}, {123456789, 5, "1234.56789"}, {-999999999, 5, "-9999.99999"},
		{999999999, 0, "999999999.0"}, {-999999999, 0, "-999999999.0"}, {999999999, 1, "99999999.9"},
	} {
		checkValue(t, realNumber(c.n, c.places), c.want)
	}
}

// TestP5Names tells the bytes that stand for themselves one by one, as a second reading of the words.
func TestP5Names(t *testing.T) {
	const themselves = "!\"$&'*+,-.0123456789:;=?@ABCDEFGHIJKLMNOPQRSTUVWXYZ\\^_`abcdefghijklmnopqrstuvwxyz|~"
	checkValue(t, name(""), "/")
	checkValue(t, name("A b#/\xc3\xa9~!"), "/A#20b#23#2f#c3#a9~!")
	checkValue(t, name("20"), "/20")
	checkValue(t, name(strings.Repeat("\xff", api.MaxName)), "/"+strings.Repeat("#ff", api.MaxName))
	for b := 1; b < 256; b++ {
		text := string([]byte{byte(b)})
		want := text
		if !strings.Contains(themselves, text) {
			want = fmt.Sprintf("#%02x", b)
		}
		checkValue(t, name(text), "/"+want)
		checkValue(t, name("a"+text+"1"), "/a"+want+"1")
		checkValue(t, dict(text, integer(7)), "<</"+want+" 7>>")
	}
}

func TestP5Strings(t *testing.T) {
	checkValue(t, quoted(""), "()")
	checkValue(t, quoted("a(b)\\\n\x00\xff~ "), `(a\(b\)\\\012\000\377~ )`)
	checkValue(t, quoted("))(("), `(\)\)\(\()`)
	checkValue(t, quoted("\x011"), `(\0011)`)
	checkValue(t, quoted(strings.Repeat("s", api.MaxText)), "("+strings.Repeat("s", api.MaxText)+")")
	for b := range 256 {
		want := string([]byte{byte(b)})
		switch {
		case strings.Contains(`()\`, want):
			want = `\` + want
		case b < 32 || b > 126:
			want = fmt.Sprintf(`\%03o`, b)
		}
		checkValue(t, quoted(string([]byte{byte(b)})), "("+want+")")
		checkValue(t, quoted(string([]byte{'1', byte(b), '1'})), "(1"+want+"1)")
	}
}

func TestP5Lists(t *testing.T) {
	checkValue(t, array(), "[]")
	checkValue(t, dict(), "<<>>")
	checkValue(t, array(array(), array(array()), dict(), api.Value{}), "[[] [[]] <<>> null]")
	checkValue(t, array(integer(5), refer(2), integer(0), integer(0)), "[5 2 0 R 0 0]")
	checkValue(t, array(name(""), name("a"), quoted("b")), "[/ /a (b)]")
	checkValue(t, dict("", api.Value{}, "B", integer(1)), "<</ null /B 1>>")
	checkValue(t, dict("Z", name("Z"), "A", dict("Z", array())), "<</Z /Z /A <</Z []>>>>")
	checkValue(t, dict("Length", integer(1), "Filter", integer(2), "DecodeParms", integer(3)), "<</Length 1 /Filter 2 /DecodeParms 3>>")
}

// TestP5Objects counts the places by hand: numbers of one, two and three digits move them.
func TestP5Objects(t *testing.T) {
	checkWritten(t, rooted(2, array(refer(1)), dict("A", refer(3)), integer(7)),
		"%PDF-1.4\n1 0 obj\n[1 0 R]\nendobj\n2 0 obj\n<</A 3 0 R>>\nendobj\n3 0 obj\n7\nendobj\n"+
			"xref\n0 4\n0000000000 65535 f \n0000000009 00000 n \n0000000032 00000 n \n0000000060 00000 n \n"+
			"trailer\n<</Size 4 /Root 2 0 R>>\nstartxref\n77\n%%EOF\n")
	d := api.Document{Root: 100}
	objects, lines, place := "", "", 9
	for n := 1; n <= api.MaxObjects; n++ {
		d.Objects = append(d.Objects, dict())
		object := fmt.Sprintf("%d 0 obj\n<<>>\nendobj\n", n)
		objects += object
		lines += fmt.Sprintf("%010d 00000 n \n", place)
		place += len(object)
	}
	checkWritten(t, d, "%PDF-1.4\n"+objects+"xref\n0 101\n0000000000 65535 f \n"+lines+
		fmt.Sprintf("trailer\n<</Size 101 /Root 100 0 R>>\nstartxref\n%d\n%%%%EOF\n", place))
}

func checkStream(t *testing.T, v api.Value, head, data string) {
	t.Helper()
	got, e := folio.Write(rooted(2, v, dict()))
	want := fmt.Sprintf("%%PDF-1.4\n1 0 obj\n%s\nstream\n%s\nendstream\nendobj\n2 0 obj\n<<>>\nendobj\nxref\n0 3\n", head, data)
	if e != api.OK || !strings.HasPrefix(string(got), want) {
		t.Errorf("Write of %.200s: %d, %.300q, want %.300q", fmt.Sprint(v), e, got, want)
	}
}

func TestP5Streams(t *testing.T) {
	checkStream(t, stream(dict(), ""), "<</Length 0>>", "")
	checkStream(t, stream(dict(), "x\n"), "<</Length 2>>", "x\n")
	checkStream(t, stream(dict(), "\x00\xff\r()%endstream"), "<</Length 15>>", "\x00\xff\r()%endstream")
	checkStream(t, stream(dict("K", integer(7)), "Hi"), "<</K 7 /Length 2>>", "Hi")
	checkStream(t, stream(dict("Z", integer(7), "A", array(dict())), "Hi"), "<</Z 7 /A [<<>>] /Length 2>>", "Hi")
	checkStream(t, stream(dict("length", integer(7), "F", integer(1)), "Hi"), "<</length 7 /F 1 /Length 2>>", "Hi")
	checkStream(t, stream(dict(), "Hi", api.Hex), "<</Length 5 /Filter [/ASCIIHexDecode]>>", "4869>")
	checkStream(t, stream(dict(), "Hi", api.A85), "<</Length 5 /Filter [/ASCII85Decode]>>", "88/~>")
	checkStream(t, stream(dict(), "aab", api.Run), "<</Length 5 /Filter [/RunLengthDecode]>>", "\xffa\x00b\x80")
	checkStream(t, stream(dict(), "", api.Hex), "<</Length 1 /Filter [/ASCIIHexDecode]>>", ">")
	checkStream(t, stream(dict("K", integer(7)), "Hi", api.Hex, api.Run), "<</K 7 /Length 9 /Filter [/ASCIIHexDecode /RunLengthDecode]>>", "01486980>")
	checkStream(t, stream(dict(), "Hi", api.Run, api.Hex), "<</Length 7 /Filter [/RunLengthDecode /ASCIIHexDecode]>>", "\x044869>\x80")
	checkStream(t, stream(dict(), "H", api.Hex, api.Hex, api.Hex, api.Hex),
		"<</Length 31 /Filter [/ASCIIHexDecode /ASCIIHexDecode /ASCIIHexDecode /ASCIIHexDecode]>>", "33333334333333383333363533653e>")
}

// TestP5Flate unpacks by the library what filter 4 packed, alone and behind another.
func TestP5Flate(t *testing.T) {
	for _, text := range []string{"", "Hi", same(api.MaxData), varied(api.MaxData)} {
		for _, filters := range [][]int{{api.Flate}, {api.Hex, api.Flate}} {
			file, e := folio.Write(rooted(1, dict(), stream(dict(), text, filters...)))
			_, data, _ := strings.Cut(string(file), "\nstream\n")
			end := strings.LastIndex(data, "\nendstream\nendobj\nxref\n")
			if e != api.OK || end < 0 {
				t.Fatalf("Write of a stream of %d bytes, packed by %v: %d", len(text), filters, e)
			}
			coded := []byte(data[:end])
			if !strings.Contains(string(file), fmt.Sprintf("<</Length %d /Filter [", len(coded))) {
				t.Errorf("the Length is not %d: %.100q", len(coded), file)
			}
			if len(filters) > 1 {
				coded, _ = folio.Decode(api.Hex, coded, api.MaxCap)
			}
			if got := byLibrary(t, coded); got != text {
				t.Errorf("%d bytes packed by %v: %d came back", len(text), filters, len(got))
			}
		}
	}
}

func TestP5NoObjects(t *testing.T) {
	all := make([]api.Value, api.MaxObjects+1)
	for i := range all {
		all[i] = dict()
	}
	checkErrors(t, api.OK, rooted(1, all[:1]...), rooted(1, all[:100]...), rooted(100, all[:100]...))
	checkErrors(t, api.ErrDocument, api.Document{}, rooted(1), rooted(1, all...), rooted(101, all...),
		rooted(0, all[:3]...), rooted(-1, all[:3]...), rooted(4, all[:3]...), rooted(math.MaxInt, all[:3]...), rooted(math.MinInt, all[:3]...))
	for kind := -1; kind < 11; kind++ {
		if kind != api.Dict {
			checkErrors(t, api.ErrDocument, rooted(1, api.Value{Kind: kind}), rooted(2, dict(), api.Value{Kind: kind}))
		}
	}
	checkErrors(t, api.ErrDocument, rooted(1, refer(2), dict()))
}

// everywhere has the value as an object, and within others.
func everywhere(values ...api.Value) []api.Document {
	var all []api.Document
	for _, v := range values {
		all = append(all, beside(v), beside(array(integer(1), v)), beside(dict("A", array(v))), beside(stream(dict("A", v), "")), rooted(1, dict("A", v), dict()))
	}
	return all
}

func TestP5RightValues(t *testing.T) {
	checkErrors(t, api.OK, everywhere(
		api.Value{}, api.Value{Items: []api.Value{}, Keys: []string{}, Filters: []int{}},
		api.Value{Kind: api.Bool}, api.Value{Kind: api.Bool, N: 1},
		integer(math.MinInt32), integer(math.MaxInt32),
		realNumber(0, 0), realNumber(10, 0), realNumber(1, 5), realNumber(-1, 5), realNumber(101, 1), realNumber(999999999, 0), realNumber(-999999999, 5),
		name(""), name(strings.Repeat("\x01", 60)), quoted(""), quoted(zeros(4000)),
		array(), dict(), dict("", api.Value{}), dict("a", api.Value{}, "A", api.Value{}), dict(strings.Repeat("k", 60), array()),
		dict("Length", api.Value{}), dict("Filter", api.Value{}), dict("DecodeParms", api.Value{}),
		refer(1), refer(2),
	)...)
	checkErrors(t, api.OK,
		beside(stream(dict(), "")), beside(stream(dict(), same(20000))), beside(stream(dict(), zeros(20000), 4, 3, 2, 1)), beside(stream(dict("Size", integer(1)), "", 1, 1, 1, 1)))
}

func TestP5WrongValues(t *testing.T) {
	checkErrors(t, api.ErrDocument, everywhere(
		api.Value{Kind: -1}, api.Value{Kind: 10}, api.Value{Kind: math.MinInt}, api.Value{Kind: math.MaxInt},
		api.Value{Kind: api.Bool, N: 2}, api.Value{Kind: api.Bool, N: -1},
		integer(math.MinInt32-1), integer(math.MaxInt32+1), integer(math.MinInt), integer(math.MaxInt),
		realNumber(1000000000, 0), realNumber(-1000000000, 0), realNumber(1000000001, 1), realNumber(-1000000001, 5),
		realNumber(math.MinInt, 0), realNumber(math.MaxInt, 2), realNumber(1, 6), realNumber(1, -1), realNumber(1, math.MaxInt), realNumber(1, math.MinInt),
		realNumber(0, 1), realNumber(10, 1), realNumber(-10, 1), realNumber(110, 5), realNumber(-999999990, 2), realNumber(0, 5),
		name(strings.Repeat("n", 61)), name("\x00"), name("n\x00"), name("\x00n"), quoted(same(4001)),
		dict(strings.Repeat("n", 61), api.Value{}), dict("\x00", api.Value{}), dict("n\x00", api.Value{}),
		dict("a", api.Value{}, "a", api.Value{}), dict("", api.Value{}, "b", api.Value{}, "", api.Value{}), dict("a", api.Value{Kind: 10}),
		api.Value{Kind: api.Dict, Keys: []string{"a"}}, api.Value{Kind: api.Dict, Items: []api.Value{{}}},
		api.Value{Kind: api.Dict, Keys: []string{"a", "b"}, Items: []api.Value{{}}}, api.Value{Kind: api.Dict, Keys: []string{"a"}, Items: []api.Value{{}, {}}},
		array(api.Value{Kind: 10}), array(api.Value{}, array(api.Value{Kind: -1}), api.Value{}),
		refer(0), refer(3), refer(-1), refer(math.MaxInt), refer(math.MinInt),
	)...)
}

func TestP5WrongStreams(t *testing.T) {
	checkErrors(t, api.ErrDocument,
		beside(stream(dict(), same(20001))), beside(stream(dict(), "", 1, 1, 1, 1, 1)), beside(stream(dict(), "", 0)), beside(stream(dict(), "", 5)),
		beside(stream(dict(), "", 1, -1)), beside(stream(dict(), "", 1, 2, 3, math.MaxInt)), beside(stream(dict(), "", math.MinInt)),
		beside(stream(dict("Length", integer(0)), "")), beside(stream(dict("Filter", array()), "")), beside(stream(dict("DecodeParms", api.Value{}), "")),
		beside(stream(dict("A", integer(0), "Length", integer(0)), "", 1)), beside(stream(dict("A", integer(0), "A", integer(0)), "")),
		beside(stream(dict("\x00", integer(0)), "")), beside(stream(dict(strings.Repeat("n", 61), integer(0)), "")), beside(stream(dict("A", integer(1<<31)), "")),
		beside(api.Value{Kind: api.Stream, Keys: []string{"A"}}), beside(api.Value{Kind: api.Stream, Items: []api.Value{{}}}),
		beside(array(stream(dict(), ""))), beside(dict("A", stream(dict(), ""))), beside(stream(dict("A", stream(dict(), "")), "")), rooted(1, dict("A", stream(dict(), ""))),
		rooted(1, stream(dict(), "")), rooted(2, dict(), stream(dict(), "")))
}

// TestP5Bare has each kind with each field that it does not name.
func TestP5Bare(t *testing.T) {
	named := map[int]string{
		api.Null: "", api.Bool: "N", api.Int: "N", api.Real: "N Places", api.Name: "Text", api.String: "Text",
		api.Array: "Items", api.Dict: "Items Keys", api.Stream: "Text Items Keys Filters", api.Ref: "N",
	}
	for kind, fields := range named {
		for _, c := range []struct {
			field string
			set   func(v *api.Value)
		}{
			{"N", func(v *api.Value) { v.N++ }},
			{"N", func(v *api.Value) { v.N-- }},
			{"Places", func(v *api.Value) { v.Places = 1 }},
			{"Places", func(v *api.Value) { v.Places = -1 }},
			{"Text", func(v *api.Value) { v.Text = "t" }},
			{"Items", func(v *api.Value) { v.Items = []api.Value{{}} }},
			{"Keys", func(v *api.Value) { v.Keys = []string{"k"} }},
			{"Keys", func(v *api.Value) { v.Items, v.Keys = []api.Value{{}}, []string{"k"} }},
			{"Filters", func(v *api.Value) { v.Filters = []int{1} }},
		} {
			v := api.Value{Kind: kind}
			if kind == api.Ref {
				v.N = 1
			}
			checkErrors(t, api.OK, beside(v))
			c.set(&v)
			if !strings.Contains(fields, c.field) {
				checkErrors(t, api.ErrDocument, beside(v), rooted(2, v, dict()))
				if kind == api.Dict {
					checkErrors(t, api.ErrDocument, rooted(1, v))
				}
			}
		}
	}
}

// deep is so many arrays around a value.
func deep(arrays int, v api.Value) api.Value {
	for range arrays {
		v = array(v)
	}
	return v
}

func TestP5Depth(t *testing.T) {
	checkErrors(t, api.OK,
		beside(deep(11, api.Value{})), beside(deep(11, array())), beside(array(integer(1), deep(10, name("")), integer(1))),
		beside(dict("A", deep(10, dict()))), beside(stream(dict("A", deep(10, refer(1))), "")), rooted(1, dict("A", deep(10, api.Value{}))))
	checkErrors(t, api.ErrDocument,
		beside(deep(12, api.Value{})), beside(deep(12, array())), beside(array(integer(1), deep(11, name("")), integer(1))),
		beside(dict("A", deep(11, dict()))), beside(stream(dict("A", deep(11, refer(1))), "")), rooted(1, dict("A", deep(11, api.Value{}))))
}

func nulls(n int) api.Value { return array(make([]api.Value, n)...) }

// keyed is a dictionary of so many keys.
func keyed(n int) api.Value {
	v := api.Value{Kind: api.Dict, Items: make([]api.Value, n)}
	for i := range n {
		v.Keys = append(v.Keys, fmt.Sprint(i))
	}
	return v
}

// TestP5Nodes: the objects are counted as well as what is in them.
func TestP5Nodes(t *testing.T) {
	checkErrors(t, api.OK,
		beside(nulls(1998)), rooted(1, keyed(1999)), rooted(2, nulls(998), keyed(1000)), beside(array(nulls(1000), nulls(996))), beside(stream(keyed(1998), "")),
		rooted(1, dict(), nulls(1000), api.Value{}, nulls(996)))
	checkErrors(t, api.ErrDocument,
		beside(nulls(1999)), rooted(1, keyed(2000)), rooted(2, nulls(998), keyed(1001)), beside(array(nulls(1000), nulls(997))), beside(stream(keyed(1999), "")),
		rooted(1, dict(), nulls(1000), api.Value{}, nulls(997)), beside(nulls(100000)), rooted(1, keyed(50000)))
}

// TestP1EndlessValues: values that hold themselves have no depth, and can't be gone through.
func TestP1EndlessValues(t *testing.T) {
	for _, wide := range []int{1, 2, 100, 1999} {
		items := make([]api.Value, wide)
		for i := range items {
			items[i] = array(items...)
		}
		checkErrors(t, api.ErrDocument, everywhere(items[0])...)
		named := keyed(wide)
		for i := range named.Items {
			named.Items[i] = named
		}
		checkErrors(t, api.ErrDocument, append(everywhere(named), rooted(1, named))...)
		within := stream(keyed(wide), "")
		for i := range within.Items {
			within.Items[i] = within
		}
		checkErrors(t, api.ErrDocument, beside(within))
	}
}

// sized is a document of eleven streams without filters, the last of them with so many bytes.
func sized(last int) api.Document {
	d := rooted(1, dict())
	for range 10 {
		d.Objects = append(d.Objects, stream(dict(), same(19000)))
	}
	d.Objects = append(d.Objects, stream(dict(), same(last)))
	return d
}

// TestP5Long has the end of the file, of the table, and of the objects come one byte too late.
func TestP5Long(t *testing.T) {
	file, e := folio.Write(sized(5000))
	if e != api.OK {
		t.Fatalf("Write: %d", e)
	}
	fits := 5000 + api.MaxFile - len(file)
	file, e = folio.Write(sized(fits))
	if e != api.OK || len(file) != api.MaxFile {
		t.Errorf("Write of what just fits: %d bytes, %d", len(file), e)
	}
	checkErrors(t, api.OK, sized(fits-1))
	for more := 1; more < 500; more++ {
		checkErrors(t, api.ErrLong, sized(fits+more))
	}
	checkErrors(t, api.ErrLong, sized(api.MaxData))
	checkErrors(t, api.ErrDocument, rooted(2, sized(fits+1).Objects...), rooted(1, append(sized(fits+1).Objects, stream(dict(), same(api.MaxData+1)))...))
}

// TestP5LongByPacking: what was packed counts, and no more of it than comes out at the end.
func TestP5LongByPacking(t *testing.T) {
	checkErrors(t, api.OK,
		beside(stream(dict(), same(20000), 1, 1, 1)), beside(stream(dict(), same(20000), 4, 1, 1, 1)), beside(stream(dict(), same(20000), 3, 4, 2, 1)))
	checkErrors(t, api.ErrLong,
		beside(stream(dict(), same(20000), 1, 1, 1, 1)), beside(stream(dict(), varied(20000), 1, 1, 1, 1)), rooted(1, dict(), quoted(zeros(4000)), array(func() (all []api.Value) {
			for range 50 {
				all = append(all, quoted(zeros(1000)))
			}
			return all
		}()...)))
	packed, loose := rooted(1, dict()), rooted(1, dict())
	for range api.MaxObjects - 1 {
		packed.Objects = append(packed.Objects, stream(dict(), same(api.MaxData), 4, 4))
		loose.Objects = append(loose.Objects, stream(dict(), same(api.MaxData), 1, 1, 1, 1))
	}
	checkErrors(t, api.OK, packed)
	checkErrors(t, api.ErrLong, loose)
}
