package folio_test

import (
	"fmt"
	"math"
	"reflect"
	"slices"
	"strings"
	"testing"

	"folio/api"
	"folio/folio"
)

// laid is the file of objects with these texts, all right around them.
func laid(root int, texts ...string) string {
	out := "%PDF-1.4\n"
	table := fmt.Sprintf("xref\n0 %d\n0000000000 65535 f \n", len(texts)+1)
	for i, text := range texts {
		table += fmt.Sprintf("%010d 00000 n \n", len(out))
		out += fmt.Sprintf("%d 0 obj\n%s\nendobj\n", i+1, text)
	}
	return out + table + fmt.Sprintf("trailer\n<</Size %d /Root %d 0 R>>\nstartxref\n%d\n%%%%EOF\n", len(texts)+1, root, len(out))
}

// bare is the value with nil for each list of nothing, which may be nil or not.
func bare(v api.Value) api.Value {
	v.Items = slices.Clone(v.Items)
	for i := range v.Items {
		v.Items[i] = bare(v.Items[i])
	}
	if len(v.Items) == 0 {
		v.Items = nil
	}
	if len(v.Keys) == 0 {
		v.Keys = nil
	}
	if len(v.Filters) == 0 {
		v.Filters = nil
	}
	return v
}

func sameDocument(a, b api.Document) bool {
	return a.Root == b.Root && reflect.DeepEqual(bare(array(a.Objects...)), bare(array(b.Objects...)))
}

func checkRead(t *testing.T, file string, most int, want api.Document) {
	t.Helper()
	got, e := folio.Read([]byte(file), most)
	if e != api.OK || !sameDocument(got, want) {
		t.Errorf("Read(%.500q, %d) = %d,\n%.500q, want\n%.500q", file, most, e, fmt.Sprint(got), fmt.Sprint(want))
	}
}

func checkNoRead(t *testing.T, want api.Errno, most int, files ...string) {
	t.Helper()
	for _, file := range files {
		if got, e := folio.Read([]byte(file), most); e != want || got.Root != 0 || len(got.Objects) > 0 {
			t.Errorf("Read(%.300q, %d) = %.300q, %d, want %d", file, most, fmt.Sprint(got), e, want)
		}
	}
}

// checkText looks at the value as an object alone, in arrays, and in dictionaries, with nothing and with all sorts of things beside it.
func checkText(t *testing.T, text string, v api.Value) {
	t.Helper()
	for _, c := range []struct {
		text string
		v    api.Value
	}{
		{text, v},
		{"[" + text + "]", array(v)},
		{"[" + text + " " + text + "\r" + text + "]", array(v, v, v)},
		{"[/N " + text + "/N(s)\x00" + text + "(s)]", array(name("N"), v, name("N"), quoted("s"), v, quoted("s"))},
		{"<</K " + text + ">>", dict("K", v)},
		{"<</K%]>>\n" + text + "/L\t" + text + "\f>>", dict("K", v, "L", v)},
	} {
		checkRead(t, laid(1, "<<>>", c.text), 0, beside(c.v))
	}
}

// checkNoText: none of these is a value, nor a row of them.
func checkNoText(t *testing.T, texts ...string) {
	t.Helper()
	for _, text := range texts {
		checkNoRead(t, api.ErrFile, 9, laid(1, "<<>>", text), laid(1, "<<>>", "["+text+"]"), laid(1, "<<>>", "[1 "+text+" 1]"),
			laid(1, "<<>>", "<</K "+text+">>"), laid(1, "<<>>", "<</K "+text+"/L 1>>"))
	}
}

func TestP6Example(t *testing.T) {
	checkRead(t, "%PDF-1.4\n1 0 obj\n<<>>\nendobj\nxref\n0 2\n0000000000 65535 f \n0000000009 00000 n \n"+
		"trailer\n<</Size 2 /Root 1 0 R>>\nstartxref\n29\n%%EOF\n", 0, rooted(1, dict()))
}

func TestP6Arguments(t *testing.T) {
	file := laid(1, "<<>>", "<</Length 2>>stream\nHi\nendstream")
	for _, most := range []int{-1, api.MaxCap + 1, math.MinInt, math.MaxInt} {
		checkNoRead(t, api.ErrArg, most, file, "", "no file", strings.Repeat(" ", api.MaxFile+1))
	}
	checkNoRead(t, api.ErrCap, 0, file)
	for _, most := range []int{2, api.MaxCap} {
		checkRead(t, file, most, beside(stream(dict(), "Hi")))
	}
}

// TestP6Long fills a right file up to the most bytes, and one more.
func TestP6Long(t *testing.T) {
	filled := func(blanks int) string { return laid(1, "<<>>"+strings.Repeat(" ", blanks)) }
	blanks := 190000 + api.MaxFile - len(filled(190000))
	fits := filled(blanks)
	checkRead(t, fits, 0, rooted(1, dict()))
	for _, most := range []int{0, api.MaxCap} {
		checkNoRead(t, api.ErrLong, most, filled(blanks+1), fits+"\n", strings.Repeat("\x00", api.MaxFile+1), strings.Repeat("[", 10*api.MaxFile))
		checkNoRead(t, api.ErrFile, most, strings.Repeat("\x00", api.MaxFile), fits[:api.MaxFile-3]+"   ")
	}
}

func TestP6Words(t *testing.T) {
	checkText(t, "null", api.Value{})
	checkText(t, "false", api.Value{Kind: api.Bool})
	checkText(t, "true", api.Value{Kind: api.Bool, N: 1})
	checkNoText(t, "Null", "TRUE", "nul", "nulll", "truefalse", "null1", "R", "obj", "endobj", "stream", "xref", "trailer", "n", "x", "\x80", "\x01", "'", "null\v", "#6eull", "-", "+", "true\\")
}

func TestP6WholeNumbers(t *testing.T) {
	for text, n := range map[string]int{
		"0": 0, "00": 0, "-0": 0, "+0": 0, "0000000000": 0, "-0000000000": 0, "1": 1, "+5": 5, "-007": -7, "0000000001": 1, "10": 10,
		"2147483647": 2147483647, "+2147483647": 2147483647, "-2147483648": -2147483648, "0000000123": 123, "089": 89,
	} {
		checkText(t, text, integer(n))
	}
	checkNoText(t, "2147483648", "-2147483649", "9999999999", "-9999999999", "4294967296", "00000000001", "-00000000000", "00000000000", "18446744073709551617",
		"++1", "--1", "+-1", "-+1", "1-", "1+", "1_0", "0x1", "1e5", "1,5", "٣", "- 1", "+ 1", "1a", "0b1", "−1")
}

func TestP6Reals(t *testing.T) {
	for _, c := range []struct {
		text      string
		n, places int
	}{
		{"12.50", 125, 1}, {"-0.05", -5, 2}, {"3.", 3, 0}, {"+3.", 3, 0}, {".5", 5, 1}, {"-.5", -5, 1}, {"+.5", 5, 1}, {"0.5", 5, 1}, {"00.50", 5, 1},
		{"30.0", 30, 0}, {"30.", 30, 0}, {"-300.00", -300, 0}, {"0.0", 0, 0}, {"-0.0", 0, 0}, {".0", 0, 0}, {"0.", 0, 0}, {"-.0", 0, 0}, {"+0.000000000", 0, 0}, {".000000000", 0, 0},
		{"0.00001", 1, 5}, {"0.000010000", 1, 5}, {"000000001.000010000", 100001, 5}, {"1.10", 11, 1}, {"1.01", 101, 2}, {"10.010", 1001, 2},
		{"999999999.", 999999999, 0}, {"-999999999.000000000", -999999999, 0}, {"99999999.9", 999999999, 1}, {"9999.99999", 999999999, 5}, {"-9999.99999", -999999999, 5},
		{"000000000.000000000", 0, 0}, {"1234.567890000", 123456789, 5},
	} {
		checkText(t, c.text, realNumber(c.n, c.places))
	}
	checkNoText(t, ".", "+.", "-.", "1.2.3", "1..2", "..", ".-5", "-.-5", "1.-5", "1.+5", "--.5", "+-.5", "1.5-", "1.e5", "1e.5", "1.5e1", "1 .5.",
		"0.000001", "0.0000001", "0.123456", "1.000001", ".999999999", "99999.99999", "999999999.1", "1000000000.0", "-1000000000.", "0000000001.0", "0000000000.", "1.0000000000", ".0000000000", "0.0000000001",
		"100000.00001", "999999999.999999999", "-999999999.999999999", "9223372036.854775808", "nan", "inf", "-inf.", "1.5f", "0x1.8", "1_0.5", ".5.", "1.5x", "1.x", "1.5x0", "x.5", "1x.5", "1.0x", "١.٥")
}

func TestP6Refs(t *testing.T) {
	for _, text := range []string{
		"1 0 R", "+1 0 R", "0000000001 0 R", "1\n0\rR", "1\x000\fR", "1  \t 0  \r\n R", "1%\n0%0 R\rR", "1%x%\r%y\n 0 % R\r\nR", "1 0%R\n%R\nR",
	} {
		checkText(t, text, refer(1))
	}
	checkText(t, "2 0 R", refer(2))
	checkNoText(t, "0 0 R", "-1 0 R", "+0 0 R", "3 0 R", "2147483648 0 R", "4294967297 0 R", "9999999999 0 R", "-9999999999 0 R", "00000000001 0 R",
		"1 00 R", "1 +0 R", "1 -0 R", "1 1 R", "1 0 r", "1 0 RR", "1 0 R1", "1 0R", "10R", "1. 0 R", "1 0. R", "1 0 0 R", "1 R", "1 0/R R", "(1) 0 R", "1 0(R)R", "1 0 %R")
	checkText(t, "[1 0]", array(integer(1), integer(0)))
	checkText(t, "[1 0 0]", array(integer(1), integer(0), integer(0)))
	checkText(t, "[1 1 0 R 0]", array(integer(1), refer(1), integer(0)))
	checkText(t, "[1 0 1 0 R]", array(integer(1), integer(0), refer(1)))
	checkText(t, "[0 1 0 2 0 R 1]", array(integer(0), integer(1), integer(0), refer(2), integer(1)))
	checkText(t, "[1 0[]/R]", array(integer(1), integer(0), array(), name("R")))
	checkText(t, "[1 0 R 2 0 R 1 0 R]", array(refer(1), refer(2), refer(1)))
	checkText(t, "<</A 1/B 0/R 1 0 R>>", dict("A", integer(1), "B", integer(0), "R", refer(1)))
	checkText(t, "[1(0)0/R]", array(integer(1), quoted("0"), integer(0), name("R")))
}

// TestP6Names tells the bytes that may stand for themselves one by one, as a second reading of the words.
func TestP6Names(t *testing.T) {
	const themselves = "!\"$&'*+,-.0123456789:;=?@ABCDEFGHIJKLMNOPQRSTUVWXYZ\\^_`abcdefghijklmnopqrstuvwxyz|~"
	checkText(t, "/", name(""))
	checkText(t, "/A#42c", name("ABc"))
	checkText(t, "/#23#2F#2f#20", name("#// "))
	checkText(t, "/#2342", name("#42"))
	checkText(t, "/null", name("null"))
	checkText(t, "/1.5", name("1.5"))
	checkText(t, "/"+strings.Repeat("n", 60), name(strings.Repeat("n", 60)))
	checkText(t, "/"+strings.Repeat("#fF", 60), name(strings.Repeat("\xff", 60)))
	checkNoText(t, "/"+strings.Repeat("n", 61), "/"+strings.Repeat("#41", 61), "/A#4", "/A#", "/#", "/#4G", "/#G4", "/#4 1", "/# 41", "/##41", "/#4#31", "/#00", "/A#00B", "/#-1", "/#+1", "/A#4/B", "/#4(1)")
	for b := 1; b < 256; b++ {
		text := string([]byte{byte(b)})
		checkText(t, fmt.Sprintf("/#%02x", b), name(text))
		checkText(t, fmt.Sprintf("/a#%02X1", b), name("a"+text+"1"))
		switch {
		case strings.Contains(themselves, text):
			checkText(t, "/"+text, name(text))
			checkText(t, "/a"+text+"1", name("a"+text+"1"))
		case strings.Contains("\t\n\f\r ", text):
			checkText(t, "[/a"+text+"1]", array(name("a"), integer(1)))
		case text == "/" || text == "[" || text == "(" || text == "<" || text == "%":
			checkText(t, "[/a"+text+map[string]string{"/": "1", "[": "]", "(": ")", "<": "1>", "%": "\n"}[text]+"]",
				array(append([]api.Value{name("a")}, map[string][]api.Value{"/": {name("1")}, "[": {array()}, "(": {quoted("")}, "<": {quoted("\x10")}}[text]...)...))
		default:
			checkNoText(t, "/"+text, "/a"+text+"1")
		}
	}
}

func TestP6Strings(t *testing.T) {
	for text, want := range map[string]string{
		"()": "", "(a(b)c)": "a(b)c", "((()()))": "(()())", `(\(\)\\)`: `()\`, `(\))`: ")", `(\()`: "(", `(a\)(b\()c)`: "a)(b()c", `(\\)`: `\`, `(\\\))`: `\)`,
		`(\n\r\t\b\f)`: "\n\r\t\b\f", `(\nn)`: "\nn",
		`(\101\102C)`: "ABC", `(\1018\0419)`: "A8!9", `(\0)`: "\x00", `(\00)`: "\x00", `(\000)`: "\x00", `(\0000)`: "\x000", `(\377)`: "\xff", `(\3777)`: "\xff7",
		`(\1)`: "\x01", `(\12)`: "\n", `(\128)`: "\n8", `(\18)`: "\x018", `(\7\7)`: "\a\a", `(\53)`: "+", `(\053)`: "+", `(\0533)`: "+3", `(\5(3))`: "\x05(3)", `(\1\n)`: "\x01\n", `(\51\50)`: ")(",
		"(a\\\nb)": "ab", "(a\\\rb)": "ab", "(a\\\r\nb)": "ab", "(a\\\n\rb)": "a\nb", "(a\\\n\nb)": "a\nb", "(a\\\r\rb)": "a\nb", "(a\\\r\n\nb)": "a\nb", "(\\\r\n)": "", "(\\1\\\n2)": "\x012",
		"(a\nb)": "a\nb", "(a\rb)": "a\nb", "(a\r\nb)": "a\nb", "(a\n\rb)": "a\n\nb", "(a\r\rb)": "a\n\nb", "(a\r\n\nb)": "a\n\nb", "(a\r\r\nb)": "a\n\nb", "(\r)": "\n", "(\r\n)": "\n", "((\r))": "(\n)",
		"(%)": "%", "(% \n)": "% \n", "(<</A [1 0 R]>>)": "<</A [1 0 R]>>", "(>>]endobj)": ">>]endobj", "( \t\f\x00 )": " \t\f\x00 ", "(\x80\xff\x7f\x01)": "\x80\xff\x7f\x01", "(#41)": "#41",
	} {
		checkText(t, text, quoted(want))
	}
	for b := range 256 {
		one := string([]byte{byte(b)})
		checkText(t, fmt.Sprintf(`(\%03o)`, b), quoted(one))
		checkText(t, fmt.Sprintf(`(\%o)`, b), quoted(one))
		switch {
		case one == "\r":
		case strings.Contains(`()\`, one):
			checkText(t, `(a\`+one+`1)`, quoted("a"+one+"1"))
			checkText(t, `(\`+one+`)`, quoted(one))
		default:
			checkText(t, "(a"+one+"1)", quoted("a"+one+"1"))
			if !strings.Contains("nrtbf01234567\n", one) {
				checkNoText(t, `(\`+one+`)`, `(a\`+one+`1)`)
			}
		}
	}
	checkNoText(t, "(a", "((a)", "(a))", ")", `(a\)`, `(a\`, "(", `(\400)`, `(\777)`, `(\4000)`, `(\8)`, `(\9)`, `(\x)`, `(\N)`, `(\ )`, `(\a)`, `(\v)`, `(\e)`, `(\%)`, `(\<)`, `((\))`, "()()(", `(\378\8)`)
	checkText(t, "[(a)(b)()]", array(quoted("a"), quoted("b"), quoted("")))
}

func TestP6HexStrings(t *testing.T) {
	for text, want := range map[string]string{
		"<>": "", "< >": "", "<\x00\t\n\f\r >": "", "<4142>": "AB", "<4 1\n42>": "AB", "< 41 42 >": "AB", "<414>": "A@", "<4>": "@", "< 4 >": "@", "<0>": "\x00", "<f>": "\xf0", "<fF00Aa>": "\xff\x00\xaa",
		"<6\x00\t\n\f\r 1>": "a", "<0123456789abcdefABCDEF>": "\x01\x23\x45\x67\x89\xab\xcd\xef\xab\xcd\xef",
	} {
		checkText(t, text, quoted(want))
	}
	checkNoText(t, "<4g>", "<g>", "<41%\n>", "<%>", "<41", "<", "<41)", "<(41)>", "< <41>>", "<41> >", ">", "<4-1>", "<\v>", "<4.1>", "<<41>>", "<41>>", "<41]", "</A>", "<4\x801>")
	checkText(t, "[<41><42>]", array(quoted("A"), quoted("B")))
	checkText(t, "<</A<41>>>", dict("A", quoted("A")))
	checkText(t, "<</A<>/B<>>>", dict("A", quoted(""), "B", quoted("")))
}

func TestP6TextLimits(t *testing.T) {
	for _, text := range []string{"(" + same(4000) + ")", "<" + strings.Repeat("61", 4000) + ">", "<6" + strings.Repeat(" 16", 3999) + "1>", "(" + strings.Repeat(`\141`, 4000) + ")", "(\\\n" + same(4000) + "\\\r\n)"} {
		checkText(t, text, quoted(same(4000)))
	}
	checkText(t, "<"+strings.Repeat("00", 3999)+"0>", quoted(zeros(4000)))
	checkText(t, "("+strings.Repeat("\r\n", 4000)+")", quoted(strings.Repeat("\n", 4000)))
	checkNoText(t, "("+same(4001)+")", "<"+strings.Repeat("61", 4001)+">", "<"+strings.Repeat("00", 4000)+"0>", "("+strings.Repeat("\n", 4001)+")", "("+strings.Repeat(`\141`, 4001)+")", "("+same(150000)+")")
}

func TestP6Lists(t *testing.T) {
	checkText(t, "[]", array())
	checkText(t, "[ \n%]\n]", array())
	checkText(t, "<<>>", dict())
	checkText(t, "<< %>>\r\n>>", dict())
	checkText(t, "[[][[]]<<>>null]", array(array(), array(array()), dict(), api.Value{}))
	checkText(t, "[/A(b)<43>/D]", array(name("A"), quoted("b"), quoted("C"), name("D")))
	checkText(t, "[true false%\nnull]", array(api.Value{Kind: api.Bool, N: 1}, api.Value{Kind: api.Bool}, api.Value{}))
	checkText(t, "<</A/B/C/D>>", dict("A", name("B"), "C", name("D")))
	checkText(t, "<</A<</A<</A[<<>>]>>>>>>", dict("A", dict("A", dict("A", array(dict())))))
	checkText(t, "<</Z 1/A 2/M 3>>", dict("Z", integer(1), "A", integer(2), "M", integer(3)))
	checkText(t, "<</a 1/A 2/ 3/#20 4>>", dict("a", integer(1), "A", integer(2), "", integer(3), " ", integer(4)))
	checkText(t, "<</Length 1/Filter 2/DecodeParms 3/Size 4/Root 5>>", dict("Length", integer(1), "Filter", integer(2), "DecodeParms", integer(3), "Size", integer(4), "Root", integer(5)))
	checkText(t, "<</"+strings.Repeat("k", 60)+" 1>>", dict(strings.Repeat("k", 60), integer(1)))
	checkNoText(t, "[", "]", "[)]", "[}]", "{}", "{", "}", "[[]", "[]]", "[>>", "<<]", "[<<]>>", "<<", ">>", "<<>", "<>>", "< <>>", "<<> >", "<<>>>>", "<<<>>", "[1", "1]", "[,]", "[1,2]",
		"<</A>>", "<<1 2>>", "<</A 1", "<</A", "<</", "<<(A) 1>>", "<<A 1>>", "<</A 1 2>>", "<</A 1/B>>", "<<null>>", "<</A 1 /B 2 3 0 R>>",
		"<</A 1/A 2>>", "<</A 1/#41 1>>", "<</ 1/ 1>>", "<</A 1/B 2/A 1>>", "<</"+strings.Repeat("k", 61)+" 1>>", "<</A#00 1>>", "<</A#4 1>>", "<</A\x80 1>>")
}

func TestP6Depth(t *testing.T) {
	nested := func(n int, text string) string { return strings.Repeat("[", n) + text + strings.Repeat("]", n) }
	keyed := func(n int, text string) string { return strings.Repeat("<</A ", n) + text + strings.Repeat(">>", n) }
	checkRead(t, laid(1, "<<>>", nested(12, "")), 0, beside(deep(12, array()).Items[0]))
	checkRead(t, laid(1, "<<>>", nested(11, "1 0 R")), 0, beside(deep(11, refer(1))))
	checkRead(t, laid(1, keyed(11, "/")), 0, rooted(1, func() api.Value {
		v := name("")
		for range 11 {
			v = dict("A", v)
		}
		return v
	}()))
	checkRead(t, laid(1, "<<>>", "<</Length 0/A"+nested(11, "")+">>stream\n\nendstream"), 0, beside(stream(dict("A", deep(10, array())), "")))
	for _, text := range []string{nested(13, ""), nested(12, "1"), nested(12, "<<>>"), keyed(12, "1"), keyed(13, ""), "[1" + nested(11, "1") + "2]", "<</A" + nested(11, "1") + ">>",
		"<</Length 0/A" + nested(12, "") + ">>stream\n\nendstream", strings.Repeat("[", 199000), strings.Repeat("<</A", 49000), strings.Repeat("[<</A ", 30000), nested(99000, ""), strings.Repeat("<<", 99000)} {
		checkNoRead(t, api.ErrFile, 9, laid(1, "<<>>", text))
	}
}

// TestP6Nodes: what tells of a stream's bytes is no value of the document.
func TestP6Nodes(t *testing.T) {
	checkRead(t, laid(1, "<<>>", "["+strings.Repeat("null ", 1998)+"]"), 0, beside(nulls(1998)))
	checkRead(t, laid(1, "<<>>", "[["+strings.Repeat("null ", 1000)+"]["+strings.Repeat("null ", 996)+"]]"), 0, beside(array(nulls(1000), nulls(996))))
	most := stream(dict("A", nulls(1997)), "", 1, 1, 1, 1)
	checkRead(t, laid(1, "<<>>", streamByHand(most)), 99, beside(most))
	most.Items[0] = nulls(1998)
	checkNoRead(t, api.ErrFile, 99, laid(1, "<<>>", streamByHand(most)))
	checkNoRead(t, api.ErrFile, 9, laid(1, "<<>>", "["+strings.Repeat("null ", 1999)+"]"), laid(1, "<<>>", "["+strings.Repeat("1 ", 99000)+"]"), laid(1, "<<>>", "["+strings.Repeat("[]", 99000)+"]"),
		laid(1, "<<>>", "[["+strings.Repeat("null ", 1000)+"]["+strings.Repeat("null ", 997)+"]]"))
}

func TestP6Objects(t *testing.T) {
	var texts []string
	var objects []api.Value
	for n := range 101 {
		texts = append(texts, fmt.Sprintf("<</N %d>>", n))
		objects = append(objects, dict("N", integer(n)))
	}
	for _, n := range []int{1, 2, 9, 10, 11, 99, 100} {
		for _, root := range []int{1, n} {
			checkRead(t, laid(root, texts[:n]...), 0, rooted(root, objects[:n]...))
		}
		checkNoRead(t, api.ErrFile, 9, laid(0, texts[:n]...), laid(n+1, texts[:n]...), laid(-1, texts[:n]...))
	}
	checkNoRead(t, api.ErrFile, 9, laid(1), laid(0), laid(1, texts...), laid(101, texts...), laid(1, make([]string, 5000)...))
	for _, text := range []string{"[]", "null", "1", "/N", "(s)", "2 0 R", "1 0 R", "<</Length 0>>stream\n\nendstream"} {
		checkNoRead(t, api.ErrFile, 9, laid(1, text, "<<>>"), laid(2, "<<>>", text))
	}
	checkNoRead(t, api.ErrFile, 9, laid(1, "<<>>", ""), laid(1, "<<>>", " % 1\n"), laid(1, "<<>>", "1 1"), laid(1, "<<>>", "1 endobj"), laid(1, "<<>>", "1 0 obj"), laid(1, "<<>>", "<<>>endobj"), laid(1, "<<>>", "1 0 obj 1"))
}
