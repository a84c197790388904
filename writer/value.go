package writer

import (
	"strconv"

	"folio/api"
	"folio/number"
	"folio/text"
)

// value puts any value that may be an item.
func (f *file) value(v api.Value) {
	switch v.Kind {
	case api.Null:
		f.put("null")
	case api.Bool:
		f.put(strconv.FormatBool(v.N == 1))
	case api.Int:
		f.put(strconv.Itoa(v.N))
	case api.Real:
		f.realNumber(v.N, v.Places)
	case api.Name:
		f.name(v.Text)
	case api.String:
		f.quoted(v.Text)
	case api.Array:
		f.array(v)
	case api.Dict:
		f.dict(v)
	case api.Ref:
		f.put(strconv.Itoa(v.N), " 0 R")
	}
}

func (f *file) realNumber(n, places int) {
	if n < 0 {
		f.put("-")
		n = -n
	}
	digits := text.Padded(n, places+1)
	point := len(digits) - places
	f.put(digits[:point], ".", digits[point:])
	if places == 0 {
		f.put("0")
	}
}

func (f *file) name(name string) {
	f.put("/")
	for i := range len(name) {
		b := name[i]
		if text.InName(b) && b != '#' {
			f.out = append(f.out, b)
		} else {
			f.out = text.AppendHex(append(f.out, '#'), b)
		}
	}
}

func (f *file) quoted(s string) {
	f.put("(")
	for i := range len(s) {
		b := s[i]
		switch {
		case b == '(' || b == ')' || b == '\\':
			f.out = append(f.out, '\\', b)
		case number.Within(b, ' ', '~'):
			f.out = append(f.out, b)
		default:
			f.out = append(f.out, '\\', '0'+b>>6, '0'+b>>3&7, '0'+b&7)
		}
	}
	f.put(")")
}

func (f *file) array(v api.Value) {
	f.put("[")
	for i, item := range v.Items {
		f.blankAhead(i)
		f.value(item)
	}
	f.put("]")
}

func (f *file) dict(v api.Value) {
	f.put("<<")
	for i, item := range v.Items {
		f.blankAhead(i)
		f.name(v.Keys[i])
		f.put(" ")
		f.value(item)
	}
	f.put(">>")
}

// blankAhead puts what stands between an item and the one ahead of it.
func (f *file) blankAhead(i int) {
	if i > 0 {
		f.put(" ")
	}
}
