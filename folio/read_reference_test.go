package folio_test

import (
	"encoding/hex"
	"fmt"
	"math/big"
	"math/rand"
	"regexp"
	"strconv"
	"strings"
	"testing"

	"folio/api"
	"folio/folio"
)

// A second reading of what the document says of files, by rules for each token, to hold Read against.
// Rules know no bytes, so that the file is told in runes, one for each byte.

func toRunes(data string) string {
	var out strings.Builder
	for i := range len(data) {
		out.WriteRune(rune(data[i]))
	}
	return out.String()
}

func toBytes(runes string) string {
	var out []byte
	for _, r := range runes {
		out = append(out, byte(r))
	}
	return string(out)
}

const plainRule = `[^\x00\t\n\f\r ()<>\[\]{}/%]`

func rule(text string) *regexp.Regexp { return regexp.MustCompile(`^(?:` + text + `)`) }

var (
	betweenRule = rule(`(?:[\x00\t\n\f\r ]|%[^\n\r]*)*`)
	wordRule    = rule(plainRule + `+`)
	nameRule    = rule(`/` + plainRule + `*`)
	nameWhole   = rule(`/(?:[!-"$-~]|#[0-9a-fA-F]{2})*$`)
	nameByte    = regexp.MustCompile(`#(..)`)
	hexWhole    = rule(`<[\x00\t\n\f\r 0-9a-fA-F]*>`)
	piece       = rule(`\\[0-7]{1,3}|\\(?:\r\n|\r|\n)|\\[nrtbf()\\]|\r\n|\r|[^\\]`)
	intWhole    = rule(`[+-]?[0-9]{1,10}$`)
	realWhole   = rule(`[+-]?(?:[0-9]{1,9}\.[0-9]{0,9}|\.[0-9]{1,9})$`)
	dictOpen    = rule(`<<`)
	dictClose   = rule(`>>`)
	arrayOpen   = rule(`\[`)
	arrayClose  = rule(`\]`)
	stringOpen  = rule(`\(`)
)

// second reads on in what is left; each of its steps tells whether it could be done, and leaves all as it is if not.
type second struct {
	all, rest string
}

func (s *second) at() int { return len(toBytes(s.all)) - len(toBytes(s.rest)) }

func (s *second) once(r *regexp.Regexp) (string, bool) {
	at := r.FindStringIndex(s.rest)
	if at == nil {
		return "", false
	}
	found := s.rest[:at[1]]
	s.rest = s.rest[at[1]:]
	return found, true
}

func (s *second) token(r *regexp.Regexp) (string, bool) {
	before := s.rest
	s.once(betweenRule)
	found, ok := s.once(r)
	if !ok {
		s.rest = before
	}
	return found, ok
}

func (s *second) words(words ...string) bool {
	before := s.rest
	for _, word := range words {
		if found, _ := s.token(wordRule); found != word {
			s.rest = before
			return false
		}
	}
	return true
}

func (s *second) exactly(texts ...string) bool {
	for _, text := range texts {
		if strings.HasPrefix(s.rest, text) {
			s.rest = s.rest[len(text):]
			return true
		}
	}
	return false
}

func (s *second) name() (string, bool) {
	before := s.rest
	text, ok := s.token(nameRule)
	if !ok || !nameWhole.MatchString(text) || strings.Contains(text, "#00") {
		s.rest = before
		return "", false
	}
	return toBytes(nameByte.ReplaceAllStringFunc(text[1:], func(coded string) string {
		n, _ := strconv.ParseUint(coded[1:], 16, 8)
		return string(rune(n))
	})), true
}

func (s *second) text() (string, bool) {
	out := ""
	for open := 1; ; {
		found, ok := s.once(piece)
		switch {
		case !ok:
			return "", false
		case found == "(":
			open++
		case found == ")":
			open--
			if open == 0 {
				return toBytes(out), true
			}
		case found == "\r", found == "\r\n":
			found = "\n"
		case found[0] != '\\':
		case found[1] == '\n', found[1] == '\r':
			found = ""
		case found[1] >= '0' && found[1] <= '7':
			n, err := strconv.ParseUint(found[1:], 8, 8)
			if err != nil {
				return "", false
			}
			found = string(rune(n))
		default:
			found = map[string]string{`\n`: "\n", `\r`: "\r", `\t`: "\t", `\b`: "\b", `\f`: "\f", `\(`: "(", `\)`: ")", `\\`: `\`}[found]
		}
		out += found
	}
}

func (s *second) items(deep int, end *regexp.Regexp, one func() bool) bool {
	if deep > 12 {
		return false
	}
	for {
		if _, ok := s.token(end); ok {
			return true
		}
		if !one() {
			return false
		}
	}
}

func (s *second) value(deep int) (v api.Value, ok bool) {
	item := func() bool {
		item, ok := s.value(deep + 1)
		v.Items = append(v.Items, item)
		return ok
	}
	if _, ok = s.token(arrayOpen); ok {
		v.Kind = 6
		return v, s.items(deep, arrayClose, item)
	}
	if _, ok = s.token(dictOpen); ok {
		v.Kind = 7
		return v, s.items(deep, dictClose, func() bool {
			key, ok := s.name()
			v.Keys = append(v.Keys, key)
			return ok && item()
		})
	}
	if coded, ok := s.token(hexWhole); ok {
		digits := inked(coded[1 : len(coded)-1])
		out, _ := hex.DecodeString(digits + "0"[:len(digits)%2])
		return quoted(string(out)), true
	}
	if _, ok = s.token(stringOpen); ok {
		text, ok := s.text()
		return quoted(text), ok
	}
	if text, ok := s.name(); ok {
		return name(text), true
	}
	word, _ := s.token(wordRule)
	switch {
	case word == "null":
		return v, true
	case word == "true" || word == "false":
		return api.Value{Kind: 1, N: len("false") - len(word)}, true
	case intWhole.MatchString(word):
		n, _ := strconv.Atoi(word)
		if s.words("0", "R") {
			return refer(n), true
		}
		return integer(n), true
	case realWhole.MatchString(word):
		return realOf(word)
	}
	return v, false
}

// realOf counts a real as a fraction: its Places are as many tens as make it whole.
func realOf(word string) (api.Value, bool) {
	fraction, ok := new(big.Rat).SetString("0" + strings.TrimLeft(word, "+-") + "0")
	if !ok {
		return api.Value{}, false
	}
	v := api.Value{Kind: 3}
	for ; !fraction.IsInt(); v.Places++ {
		fraction.Mul(fraction, big.NewRat(10, 1))
	}
	v.N = int(fraction.Num().Int64())
	if word[0] == '-' {
		v.N = -v.N
	}
	return v, true
}

// stream: what stands behind a dictionary of a stream. The Text is what is not unpacked yet.
func (s *second) stream(head api.Value) (v api.Value, ok bool) {
	v.Kind = 8
	long, lengths, named := 0, 0, 0
	for i, key := range head.Keys {
		item := head.Items[i]
		switch key {
		case "Length":
			lengths++
			if item.Kind != 2 {
				return v, false
			}
			long = item.N
		case "Filter":
			named++
			if item.Kind == 4 {
				item = array(item)
			}
			if item.Kind != 6 || len(item.Items) > 4 {
				return v, false
			}
			for _, name := range item.Items {
				filter := strings.Index("ASCIIHexDecode  ASCII85Decode   RunLengthDecode FlateDecode     ", fmt.Sprintf("%-16s", name.Text))
				if name.Kind != 4 || filter%16 != 0 || name.Text == "" {
					return v, false
				}
				v.Filters = append(v.Filters, filter/16+1)
			}
		default:
			v.Keys, v.Items = append(v.Keys, key), append(v.Items, item)
		}
	}
	if lengths != 1 || named > 1 || !s.exactly("\n", "\r\n") {
		return v, false
	}
	bytes := []rune(s.rest)
	if long < 0 || long > len(bytes) {
		return v, false
	}
	v.Text = toBytes(string(bytes[:long]))
	s.rest = string(bytes[long:])
	word := ""
	if s.exactly("\n") {
		word, _ = s.once(wordRule)
	}
	return v, word == "endstream"
}

func (s *second) object(n int) (v api.Value, ok bool) {
	if !s.words(fmt.Sprint(n), "0", "obj") {
		return v, false
	}
	v, ok = s.value(1)
	if ok && v.Kind == 7 && s.words("stream") {
		v, ok = s.stream(v)
	}
	return v, ok && s.words("endobj")
}

// file answers the document with its streams not unpacked yet.
func (s *second) file() (d api.Document, ok bool) {
	if !s.exactly("%PDF-1.4\n") {
		return d, false
	}
	var lines []string
	for {
		s.once(betweenRule)
		if strings.HasPrefix(s.rest, "xref") {
			break
		}
		lines = append(lines, fmt.Sprintf("%010d 00000 n", s.at()))
		v, ok := s.object(len(lines))
		if !ok {
			return d, false
		}
		d.Objects = append(d.Objects, v)
	}
	table, size := s.at(), len(lines)+1
	if !s.exactly(fmt.Sprintf("xref\n0 %d\n0000000000 65535 f", size)) || !s.exactly(" \n", "\r\n") {
		return d, false
	}
	for _, line := range lines {
		if !s.exactly(line) || !s.exactly(" \n", "\r\n") {
			return d, false
		}
	}
	if !s.words("trailer") {
		return d, false
	}
	v, ok := s.value(1)
	if !ok || v.Kind != 7 || len(v.Keys) != 2 {
		return d, false
	}
	if v.Keys[0] == "Root" {
		v.Keys[0], v.Keys[1] = v.Keys[1], v.Keys[0]
		v.Items[0], v.Items[1] = v.Items[1], v.Items[0]
	}
	if v.Keys[0] != "Size" || v.Keys[1] != "Root" || v.Items[0].Kind != 2 || v.Items[0].N != size || v.Items[1].Kind != 9 {
		return d, false
	}
	d.Root = v.Items[1].N
	if !s.words("startxref", fmt.Sprint(table)) || !s.exactly("\r\n", "\n", "\r") || !s.exactly("%%EOF") {
		return d, false
	}
	return d, s.rest == "" || s.rest == "\n" || s.rest == "\r" || s.rest == "\r\n"
}

func unpackedByReference(v api.Value, most int) (string, api.Errno) {
	data := v.Text
	for _, filter := range v.Filters {
		e := api.OK
		if filter == api.Flate {
			data, e = flateReference(data, most)
		} else {
			data, e = reference(filter, data, most)
		}
		if e != api.OK {
			return "", e
		}
	}
	switch {
	case len(data) > most:
		return "", api.ErrCap
	case len(data) > 20000:
		return "", api.ErrFile
	}
	return data, api.OK
}

func readReference(file string, most int) (api.Document, api.Errno) {
	if most < 0 || most > 1000000 {
		return api.Document{}, api.ErrArg
	}
	if len(file) > 200000 {
		return api.Document{}, api.ErrLong
	}
	runes := toRunes(file)
	s := &second{runes, runes}
	d, ok := s.file()
	if !ok || !rightDocument(withoutTexts(d)) {
		return api.Document{}, api.ErrFile
	}
	for i, v := range d.Objects {
		if v.Kind == 8 {
			text, e := unpackedByReference(v, most)
			if e != api.OK {
				return api.Document{}, e
			}
			most -= len(text)
			d.Objects[i].Text = text
		}
	}
	return d, api.OK
}

// withoutTexts has streams of nothing, as their bytes are asked for later.
func withoutTexts(d api.Document) api.Document {
	out := api.Document{Root: d.Root}
	for _, v := range d.Objects {
		if v.Kind == 8 {
			v.Text = ""
		}
		out.Objects = append(out.Objects, v)
	}
	return out
}

// scribe writes documents in any of the ways that may be read. If odds is above 0, a stream's bytes are wrong once in so many times.
type scribe struct {
	*rand.Rand
	odds int
}

func (s *scribe) one(of ...string) string { return of[s.Intn(len(of))] }

// gap is what may stand between tokens, maybe nothing.
func (s *scribe) gap() string {
	out := ""
	for s.Intn(3) == 0 {
		out += s.one(" ", "\n", "\r", "\r\n", "\t", "\f", "\x00", "%\n", "% 1 0 R >> ]\r", "%%EOF\r\n", "%\xff(\n")
	}
	return out
}

// apart is what must stand between words.
func (s *scribe) apart() string {
	return s.gap() + s.one(" ", "\n", "\r", "\t", "\f", "\x00", "%x\n", "%\r") + s.gap()
}

func (s *scribe) name(text string) string {
	out := "/"
	for _, b := range []byte(text) {
		hand := nameByHand(string([]byte{b}))[1:]
		switch s.Intn(4) {
		case 0:
			hand = fmt.Sprintf("#%02x", b)
		case 1:
			hand = strings.ToUpper(hand[:len(hand)/2]) + hand[len(hand)/2:]
			if len(hand) == 1 {
				hand = string([]byte{b})
			}
		}
		out += hand
	}
	return out
}

func (s *scribe) hexString(text string) string {
	out := "<"
	digits := fmt.Sprintf("%x", text)
	if strings.HasSuffix(digits, "0") && s.Intn(2) == 0 {
		digits = digits[:len(digits)-1]
	}
	for _, digit := range digits {
		if s.Intn(4) == 0 {
			out += s.one(" ", "\n", "\r", "\t", "\f", "\x00")
		}
		out += s.one(string(digit), strings.ToUpper(string(digit)))
	}
	return out + s.one("", " ", "\n") + ">"
}

func (s *scribe) string(text string) string {
	if s.Intn(3) == 0 {
		return s.hexString(text)
	}
	out := "("
	for i := range len(text) {
		b := text[i]
		one := stringByHand(text[i : i+1])
		one = one[1 : len(one)-1]
		switch s.Intn(5) {
		case 0:
			one = fmt.Sprintf(`\%03o`, b)
		case 1:
			if i+1 == len(text) || text[i+1] < '0' || text[i+1] > '7' {
				one = fmt.Sprintf(`\%o`, b) + s.one("", "\\\n", "\\\r\n")
			}
		case 2:
			if short := strings.IndexByte("\n\r\t\b\f", b); short >= 0 {
				one = `\` + "nrtbf"[short:short+1]
			} else if b != '\r' && !strings.Contains(`()\`, text[i:i+1]) {
				one = text[i : i+1]
			}
		case 3:
			if b == '\n' {
				one = s.one("\n", "\r\n")
			}
		}
		out += one
	}
	return out + s.one("", "", "\\\n", "\\\r\n") + ")"
}

func (s *scribe) whole(n int) string {
	digits := strings.TrimPrefix(fmt.Sprint(n), "-")
	if s.Intn(4) == 0 {
		digits = strings.Repeat("0", s.Intn(11-len(digits))) + digits
	}
	switch {
	case n < 0:
		return "-" + digits
	case n == 0:
		return s.one("", "+", "-") + digits
	}
	return s.one("", "", "+") + digits
}

func (s *scribe) real(n, places int) string {
	hand := realByHand(n, places)
	sign := ""
	if n < 0 {
		sign, hand = "-", hand[1:]
	} else if n == 0 {
		sign = s.one("", "+", "-")
	}
	ahead, behind, _ := strings.Cut(hand, ".")
	if s.Intn(2) == 0 && ahead == "0" && behind != "" {
		ahead = ""
	} else if s.Intn(3) == 0 {
		ahead = strings.Repeat("0", s.Intn(10-len(ahead))) + ahead
	}
	if s.Intn(2) == 0 && behind == "0" && ahead != "" {
		behind = ""
	} else if s.Intn(3) == 0 {
		behind += strings.Repeat("0", s.Intn(10-len(behind)))
	}
	return sign + ahead + "." + behind
}

// value begins and ends with a gap where it must not touch what is beside it.
func (s *scribe) value(v api.Value) string {
	out := ""
	switch v.Kind {
	case 2:
		out = s.whole(v.N)
	case 3:
		out = s.real(v.N, v.Places)
	case 4:
		return s.gap() + s.name(v.Text) + s.apart()
	case 5:
		return s.gap() + s.string(v.Text) + s.gap()
	case 6:
		out = s.gap() + "["
		for _, item := range v.Items {
			out += s.value(item)
		}
		return out + s.gap() + "]" + s.gap()
	case 7:
		out = s.gap() + "<<"
		for i, item := range v.Items {
			out += s.gap() + s.name(v.Keys[i])
			if item.Kind < 4 || item.Kind == 9 {
				out += s.apart()
			}
			out += s.value(item)
		}
		return out + s.gap() + ">>" + s.gap()
	case 9:
		return s.gap() + s.whole(v.N) + s.apart() + "0" + s.apart() + "R" + s.apart()
	default:
		out = valueByHand(v)
	}
	return s.gap() + out + s.apart()
}

func (s *scribe) stream(v api.Value) string {
	data, names := []byte(v.Text), api.Value{Kind: 6}
	for i := range v.Filters {
		names.Items = append(names.Items, name([]string{"", "ASCIIHexDecode", "ASCII85Decode", "RunLengthDecode", "FlateDecode"}[v.Filters[i]]))
		data, _ = folio.Encode(v.Filters[len(v.Filters)-1-i], data)
	}
	if len(v.Filters) == 1 && s.Intn(2) == 0 {
		names = names.Items[0]
	}
	if s.odds > 0 && s.Intn(s.odds) == 0 {
		data = []byte(s.bent(string(data)))
	}
	own := dict("Length", integer(len(data)))
	if len(v.Filters) > 0 || s.Intn(2) == 0 {
		own = dict("Length", integer(len(data)), "Filter", names)
	}
	head := dict()
	for i := 0; i < len(v.Keys) || len(own.Keys) > 0; {
		if i < len(v.Keys) && (len(own.Keys) == 0 || s.Intn(2) == 0) {
			head.Keys, head.Items = append(head.Keys, v.Keys[i]), append(head.Items, v.Items[i])
			i++
			continue
		}
		last := s.Intn(len(own.Keys))
		head.Keys, head.Items = append(head.Keys, own.Keys[last]), append(head.Items, own.Items[last])
		own.Keys, own.Items = append(own.Keys[:last:last], own.Keys[last+1:]...), append(own.Items[:last:last], own.Items[last+1:]...)
	}
	return s.value(head) + s.gap() + "stream" + s.one("\n", "\r\n") + string(data) + "\nendstream" + s.apart()
}

// object is what stands between the words obj and endobj.
func (s *scribe) object(v api.Value) string {
	if v.Kind == 8 {
		return s.apart() + s.stream(v)
	}
	return s.apart() + s.value(v) + s.apart()
}

// file lays objects' texts into a file.
func (s *scribe) file(root int, texts []string) string {
	end := func() string { return s.one(" \n", "\r\n") }
	out := "%PDF-1.4\n" + s.gap()
	table := fmt.Sprintf("xref\n0 %d\n0000000000 65535 f%s", len(texts)+1, end())
	for i, text := range texts {
		table += fmt.Sprintf("%010d 00000 n%s", len(out), end())
		out += fmt.Sprintf("%d%s0%sobj%sendobj%s", i+1, s.apart(), s.apart(), text, s.apart())
	}
	size, rooted := "/Size"+s.apart()+s.value(integer(len(texts)+1)), "/Root"+s.apart()+s.value(refer(root))
	trailer := size + rooted
	if s.Intn(2) == 0 {
		trailer = rooted + size
	}
	place := len(out)
	return out + table + s.gap() + "trailer" + s.gap() + "<<" + s.gap() + trailer + s.gap() + ">>" + s.gap() + "startxref" + s.apart() + fmt.Sprint(place) + s.one("\n", "\r", "\r\n") + "%%EOF" + s.one("", "\n", "\r", "\r\n")
}

func (s *scribe) objects(d api.Document) []string {
	var texts []string
	for _, v := range d.Objects {
		texts = append(texts, s.object(v))
	}
	return texts
}

// bent has a byte or some more of a text left out, put in, or changed.
func (s *scribe) bent(text string) string {
	at := s.Intn(len(text) + 1)
	to := min(len(text), at+s.Intn(3))
	in := ""
	for range s.Intn(3) {
		in += s.one("(", ")", "<", ">", "[", "]", "<<", ">>", "/", "%", "\\", "#", "0", "1", "7", "9", "+", "-", ".", "R", " 0 R ", "a", "F", " ", "\n", "\r", "\x00", "\x80", "\x7f", "{", "}", "null", "true ", "stream", "endobj", "2147483648", "/Length", "/Filter", "/A")
	}
	return text[:at] + in + text[to:]
}

func checkAgainst(t *testing.T, file string, most int) api.Errno {
	t.Helper()
	want, wrong := readReference(file, most)
	got, e := folio.Read([]byte(file), most)
	if e != wrong || !sameDocument(got, want) {
		t.Fatalf("Read(%q, %d) = %d,\n%#v, want %d,\n%#v", file, most, e, got, wrong, want)
	}
	return e
}

// TestP6EachWay: however a document is written, it is that document that is read.
func TestP6EachWay(t *testing.T) {
	r := rand.New(rand.NewSource(61))
	m, s := &maker{Rand: r}, &scribe{Rand: r}
	for range 1500 {
		d := m.document()
		file := s.file(d.Root, s.objects(d))
		if len(file) > api.MaxFile {
			continue
		}
		checkRead(t, file, api.MaxCap, d)
		want, e := readReference(file, api.MaxCap)
		if e != api.OK || !sameDocument(d, want) {
			t.Fatalf("the reference itself: %d of %q", e, file)
		}
	}
}

// TestP6Reference holds Read against the reference at documents and texts that are often wrong, written in any way and bent.
func TestP6Reference(t *testing.T) {
	r := rand.New(rand.NewSource(62))
	s := &scribe{r, 4}
	var answers [7]int
	for range 6000 {
		m := &maker{Rand: r}
		d := m.document()
		texts := s.objects(d)
		for range r.Intn(3) {
			at := r.Intn(len(texts))
			texts[at] = s.bent(texts[at])
		}
		file := s.file(d.Root, texts)
		for r.Intn(4) == 0 {
			file = s.bent(file)
		}
		most := m.pick(0, 10, 100, 1000, 5000, api.MaxCap)
		answers[checkAgainst(t, file, most)]++
	}
	if answers[api.OK] < 500 || answers[api.ErrFile] < 500 || answers[api.ErrData] < 50 || answers[api.ErrCap] < 50 {
		t.Errorf("the files made up are too much alike: %v", answers)
	}
}

// TestP6EveryShortText holds Read against the reference at all short texts of what values are made of.
func TestP6EveryShortText(t *testing.T) {
	for _, c := range []struct {
		letters string
		long    int
	}{
		{"[]<>/1 ", 5},
		{"+-.019 ", 5},
		{"(\\)\n\r1n", 5},
		{"/#014Aa ", 5},
		{"<>4aG% \n", 5},
		{"0R1 %\n", 6},
	} {
		everyText(c.letters, c.long, func(text string) {
			checkAgainst(t, laid(1, "<</A "+text+">>"), 0)
		})
	}
}

// FuzzRead holds Read against the reference at whatever comes: as a file, and as an object of one.
func FuzzRead(f *testing.F) {
	for _, text := range []string{"[1 0 R(a\\n)<41>/N#41 1.50 true]", "<</Length 5/Filter/ASCIIHexDecode>>stream\n4869>\nendstream", "<</A%\n<<>>/B null>>"} {
		f.Add([]byte(text), 9)
		f.Add([]byte(laid(1, "<<>>", text)), 9)
	}
	f.Fuzz(func(t *testing.T, data []byte, most int) {
		checkAgainst(t, string(data), most)
		checkAgainst(t, laid(1, "<<>>", string(data)), most)
	})
}
