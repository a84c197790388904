package folio_test

import (
	"fmt"
	"math"
	"math/rand"
	"reflect"
	"strings"
	"testing"

	"folio/api"
	"folio/folio"
)

// A second reading of what the document says of documents and files, plain and slow, to hold Write against.

func depthOf(v api.Value) int {
	greatest := 0
	for _, item := range v.Items {
		greatest = max(greatest, depthOf(item))
	}
	return 1 + greatest
}

func nodesOf(v api.Value) int {
	n := 1
	for _, item := range v.Items {
		n += nodesOf(item)
	}
	return n
}

// onlyNamed tells whether no field is set but those that the kind names.
func onlyNamed(v api.Value) bool {
	named := []string{"", "N", "N", "N Places", "Text", "Text", "Items", "Keys Items", "Keys Items Text Filters", "N"}[v.Kind]
	fields := reflect.ValueOf(v)
	for i := range fields.NumField() {
		name := fields.Type().Field(i).Name
		field := fields.Field(i)
		empty := field.IsZero() || field.Kind() == reflect.Slice && field.Len() == 0
		if name != "Kind" && !empty && !strings.Contains(named, name) {
			return false
		}
	}
	return true
}

func wrongName(text string) bool { return len(text) > 60 || strings.Contains(text, "\x00") }

func wrongKeys(keys []string, forbidden string) bool {
	for i, key := range keys {
		if wrongName(key) || strings.Contains(forbidden, "/"+key+"/") {
			return true
		}
		for _, other := range keys[:i] {
			if key == other {
				return true
			}
		}
	}
	return false
}

// rightValue: v may be an item of a document of so many objects.
func rightValue(v api.Value, objects int) bool {
	if v.Kind < 0 || v.Kind > 9 || v.Kind == 8 || !onlyNamed(v) {
		return false
	}
	for _, item := range v.Items {
		if !rightValue(item, objects) {
			return false
		}
	}
	switch v.Kind {
	case 1:
		return v.N == 0 || v.N == 1
	case 2:
		return v.N == int(int32(v.N))
	case 3:
		return v.Places >= 0 && v.Places <= 5 && len(strings.TrimPrefix(fmt.Sprint(v.N), "-")) <= 9 && (v.Places == 0 || !strings.HasSuffix(fmt.Sprint(v.N), "0"))
	case 4:
		return !wrongName(v.Text)
	case 5:
		return len(v.Text) <= 4000
	case 7:
		return len(v.Keys) == len(v.Items) && !wrongKeys(v.Keys, "")
	case 9:
		return v.N >= 1 && v.N <= objects
	}
	return true
}

func rightStream(v api.Value, objects int) bool {
	for _, filter := range v.Filters {
		if filter < 1 || filter > 4 {
			return false
		}
	}
	head := api.Value{Kind: 7, Keys: v.Keys, Items: v.Items}
	return onlyNamed(v) && rightValue(head, objects) && !wrongKeys(v.Keys, "/Length/Filter/DecodeParms/") && len(v.Text) <= 20000 && len(v.Filters) <= 4
}

func rightDocument(d api.Document) bool {
	count := len(d.Objects)
	if count < 1 || count > 100 || d.Root < 1 || d.Root > count || d.Objects[d.Root-1].Kind != 7 {
		return false
	}
	nodes := 0
	for _, v := range d.Objects {
		right := rightValue
		if v.Kind == 8 {
			right = rightStream
		}
		if !right(v, count) || depthOf(v) > 12 {
			return false
		}
		nodes += nodesOf(v)
	}
	return nodes <= 2000
}

func nameByHand(text string) string {
	out := "/"
	for _, b := range []byte(text) {
		if b < 33 || b > 126 || strings.IndexByte("()<>[]{}/%#", b) >= 0 {
			out += fmt.Sprintf("#%02x", b)
		} else {
			out += string(rune(b))
		}
	}
	return out
}

func stringByHand(text string) string {
	out := "("
	for _, b := range []byte(text) {
		switch {
		case b == '(', b == ')', b == '\\':
			out += "\\" + string(rune(b))
		case b < 32, b > 126:
			out += fmt.Sprintf("\\%03o", b)
		default:
			out += string(rune(b))
		}
	}
	return out + ")"
}

func realByHand(n, places int) string {
	if places == 0 {
		return fmt.Sprintf("%d.0", n)
	}
	return fmt.Sprintf("%.*f", places, float64(n)/math.Pow10(places))
}

func valueByHand(v api.Value) string {
	var items []string
	for i, item := range v.Items {
		text := valueByHand(item)
		if v.Kind == 7 {
			text = nameByHand(v.Keys[i]) + " " + text
		}
		items = append(items, text)
	}
	joined := strings.Join(items, " ")
	switch v.Kind {
	case 0:
		return "null"
	case 1:
		return []string{"false", "true"}[v.N]
	case 2:
		return fmt.Sprint(v.N)
	case 3:
		return realByHand(v.N, v.Places)
	case 4:
		return nameByHand(v.Text)
	case 5:
		return stringByHand(v.Text)
	case 6:
		return "[" + joined + "]"
	case 7:
		return "<<" + joined + ">>"
	}
	return fmt.Sprintf("%d 0 R", v.N)
}

func streamByHand(v api.Value) string {
	head := strings.TrimSuffix(valueByHand(api.Value{Kind: 7, Keys: v.Keys, Items: v.Items}), ">>")
	if len(v.Keys) > 0 {
		head += " "
	}
	data, names := []byte(v.Text), []string{}
	for i := range v.Filters {
		names = append(names, []string{"", "/ASCIIHexDecode", "/ASCII85Decode", "/RunLengthDecode", "/FlateDecode"}[v.Filters[i]])
		data, _ = folio.Encode(v.Filters[len(v.Filters)-1-i], data)
	}
	head += fmt.Sprintf("/Length %d", len(data))
	if len(names) > 0 {
		head += " /Filter [" + strings.Join(names, " ") + "]"
	}
	return head + ">>\nstream\n" + string(data) + "\nendstream"
}

func fileByHand(d api.Document) (string, api.Errno) {
	if !rightDocument(d) {
		return "", api.ErrDocument
	}
	out, table := "%PDF-1.4\n", fmt.Sprintf("xref\n0 %d\n0000000000 65535 f \n", len(d.Objects)+1)
	for i, v := range d.Objects {
		table += fmt.Sprintf("%010d 00000 n \n", len(out))
		text := ""
		if v.Kind == 8 {
			text = streamByHand(v)
		} else {
			text = valueByHand(v)
		}
		out += fmt.Sprintf("%d 0 obj\n%s\nendobj\n", i+1, text)
	}
	place := len(out)
	out += table + fmt.Sprintf("trailer\n<</Size %d /Root %d 0 R>>\nstartxref\n%d\n%%%%EOF\n", len(d.Objects)+1, d.Root, place)
	if len(out) > 200000 {
		return "", api.ErrLong
	}
	return out, api.OK
}

// maker makes documents up: right ones, unless odds is above 0, when each part is wrong once in so many times.
type maker struct {
	*rand.Rand
	odds    int
	objects int
}

func (m *maker) pick(right ...int) int { return right[m.Intn(len(right))] }

// or answers right, or, if it is to be wrong, one of the others.
func (m *maker) or(right int, wrong ...int) int {
	if m.odds > 0 && m.Intn(m.odds) == 0 {
		return m.pick(wrong...)
	}
	return right
}

func (m *maker) name() string {
	out := make([]byte, m.or(m.pick(0, 1, 1, 2, 2, 3, 60), 61))
	for i := range out {
		out[i] = byte(m.or(1+m.Intn(255), 0))
	}
	return string(out)
}

func (m *maker) keys(n int) []string {
	var keys []string
	for len(keys) < n {
		key := m.name()
		if m.Intn(4) == 0 {
			key = []string{"Size", "length", "Leng", "Filters", "DecodeParm", "", "R"}[m.Intn(7)]
		}
		if m.or(0, 1) == 1 {
			key = []string{"Length", "Filter", "DecodeParms"}[m.Intn(3)]
		}
		if m.or(0, 1) == 1 || !wrongKeys(append(keys, key), "") || wrongName(key) {
			keys = append(keys, key)
		}
	}
	return keys
}

func (m *maker) text(most int) string {
	return string(randomBytes(m.Rand, min(most, m.pick(0, 1, 5, 40, 300))))
}

// number is made of a kind's least and greatest, what is just outside, and all between.
func (m *maker) number(least, most int) int {
	return m.or(m.pick(least, most, least+m.Intn(most-least+1)), least-1, most+1, math.MinInt, math.MaxInt)
}

func (m *maker) realValue() api.Value {
	v := api.Value{Kind: api.Real, Places: m.or(m.Intn(6), -1, 6, math.MaxInt)}
	v.N = m.number(-999999999, 999999999) / m.pick(1, 1, 10, 1000, 10000000)
	if v.Places != 0 && v.N%10 == 0 && m.or(0, 1) == 0 {
		v.N++
	}
	return v
}

func (m *maker) items(n, deep int) []api.Value {
	var items []api.Value
	for range n {
		items = append(items, m.value(deep-1))
	}
	return items
}

// value is at most so deep.
func (m *maker) value(deep int) api.Value {
	kind := m.pick(0, 1, 2, 3, 4, 5, 6, 7, 9)
	if deep <= 1 {
		kind = m.or(m.pick(0, 1, 2, 3, 4, 5, 9), 6, 7)
	}
	v := api.Value{Kind: kind}
	n := m.Intn(4)
	switch kind {
	case api.Bool:
		v.N = m.number(0, 1)
	case api.Int:
		v.N = m.number(math.MinInt32, math.MaxInt32)
	case api.Real:
		v = m.realValue()
	case api.Name:
		v.Text = m.name()
	case api.String:
		v.Text = m.text(4000)
	case api.Array:
		v.Items = m.items(n, deep)
	case api.Dict:
		v.Items, v.Keys = m.items(n, deep), m.keys(m.or(n, n+1))
	case api.Ref:
		v.N = m.number(1, m.objects)
	}
	return m.spoiled(v)
}

// spoiled has, where it is to be wrong, a field that it should not have, or a kind that it isn't.
func (m *maker) spoiled(v api.Value) api.Value {
	switch m.or(0, 1, 2, 3, 4, 5, 6, 7) {
	case 1:
		v.N++
	case 2:
		v.Places++
	case 3:
		v.Text += "x"
	case 4:
		v.Items = append(v.Items, api.Value{})
	case 5:
		v.Keys = append(v.Keys, "x")
	case 6:
		v.Filters = append(v.Filters, m.pick(0, 1, 4, 5))
	case 7:
		v.Kind = m.Intn(13) - 2
	}
	return v
}

func (m *maker) stream() api.Value {
	n := m.Intn(3)
	v := api.Value{Kind: api.Stream, Items: m.items(n, 4), Text: m.text(20000)}
	for _, key := range m.keys(n) {
		if wrongKeys([]string{key}, "/Length/Filter/DecodeParms/") && m.or(0, 1) == 0 {
			key = "Other"
		}
		v.Keys = append(v.Keys, key)
	}
	for range m.or(m.Intn(5), 5) {
		v.Filters = append(v.Filters, m.number(1, 4))
	}
	return m.spoiled(v)
}

func (m *maker) document() api.Document {
	m.objects = m.pick(1, 2, 3, 4, 12)
	d := api.Document{Root: m.number(1, m.objects)}
	for i := range m.objects {
		switch {
		case i == d.Root-1:
			n := m.Intn(4)
			d.Objects = append(d.Objects, api.Value{Kind: m.or(api.Dict, api.Array, api.Stream), Items: m.items(n, 4), Keys: m.keys(n)})
		case m.Intn(3) == 0:
			d.Objects = append(d.Objects, m.stream())
		default:
			d.Objects = append(d.Objects, m.value(m.or(m.pick(2, 3, 12), 13)))
		}
	}
	return d
}

func TestP5ByHand(t *testing.T) {
	var answers [7]int
	for _, odds := range []int{0, 30, 150, 1000} {
		m := &maker{Rand: rand.New(rand.NewSource(int64(odds))), odds: odds}
		for range 1500 {
			d := m.document()
			want, wrong := fileByHand(d)
			got, e := folio.Write(d)
			if e != wrong || string(got) != want {
				t.Fatalf("Write(%#v) = %d,\n%q, want %d,\n%q", d, e, got, wrong, want)
			}
			if odds == 0 && e != api.OK {
				t.Fatalf("made up: %#v", d)
			}
			answers[e]++
		}
	}
	if answers[api.OK] < 1000 || answers[api.ErrDocument] < 1000 {
		t.Errorf("the documents made up are too much alike: %v", answers)
	}
}
