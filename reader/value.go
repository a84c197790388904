package reader

import (
	"folio/api"
	"folio/number"
)

// value takes a value that stands as deep as that within its object, which itself is 1 deep.
// A document has none that is deeper, and marks can go on without end: so it is asked ahead of going deeper.
func (s *scanner) value(deep int) api.Value {
	must(number.Within(deep, 1, api.MaxDepth))
	switch {
	case s.takesMark("["):
		return s.array(deep)
	case s.takesMark("<<"):
		return s.dict(deep)
	case s.takesMark("<"):
		return api.Value{Kind: api.String, Text: s.hexText()}
	case s.takesMark("("):
		return api.Value{Kind: api.String, Text: s.quotedText()}
	case s.takesMark("/"):
		return api.Value{Kind: api.Name, Text: s.name()}
	}
	return s.worded()
}

func (s *scanner) array(deep int) api.Value {
	v := api.Value{Kind: api.Array}
	for !s.takesMark("]") {
		v.Items = append(v.Items, s.value(deep+1))
	}
	return v
}

func (s *scanner) dict(deep int) api.Value {
	v := api.Value{Kind: api.Dict}
	for !s.takesMark(">>") {
		must(s.takesMark("/"))
		v.Keys = append(v.Keys, s.name())
		v.Items = append(v.Items, s.value(deep+1))
	}
	return v
}

// worded takes a value that begins with a word.
func (s *scanner) worded() api.Value {
	word := s.word()
	switch word {
	case "null":
		return api.Value{Kind: api.Null}
	case "false":
		return api.Value{Kind: api.Bool}
	case "true":
		return api.Value{Kind: api.Bool, N: 1}
	}
	n, whole := wholeNumber(word)
	switch {
	case !whole:
		return realNumber(word)
	case s.takesRef():
		return api.Value{Kind: api.Ref, N: n}
	}
	return api.Value{Kind: api.Int, N: n}
}

// takesRef steps over what makes a Ref of a whole number, if that comes behind it.
func (s *scanner) takesRef() bool {
	before := s.at
	if s.takesWord("0") && s.takesWord("R") {
		return true
	}
	s.at = before
	return false
}

// itemsOf answers each value that a dictionary has by a key.
func itemsOf(dict api.Value, key string) []api.Value {
	var items []api.Value
	for i, item := range dict.Items {
		if dict.Keys[i] == key {
			items = append(items, item)
		}
	}
	return items
}

// itemOf answers the value that a dictionary must have by a key, once, and of that kind.
func itemOf(dict api.Value, key string, kind int) api.Value {
	items := itemsOf(dict, key)
	must(len(items) == 1 && items[0].Kind == kind)
	return items[0]
}
