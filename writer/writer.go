// Package writer makes files of documents. It trusts its caller that it is given a document.
package writer

import (
	"slices"
	"strconv"

	"folio/api"
	"folio/document"
	"folio/filters"
	"folio/text"
)

// File answers d's file. Of one that would be longer than a file may be, it answers a part that is too long already:
// a document can mean some hundred times what may be written.
func File(d api.Document) []byte {
	f := &file{out: []byte("%PDF-1.4\n")}
	for i, v := range d.Objects {
		f.object(i+1, v)
		if len(f.out) > api.MaxFile {
			return f.out
		}
	}
	table := len(f.out)
	f.crossTable()
	f.trailer(d.Root)
	f.put("startxref\n", strconv.Itoa(table), "\n%%EOF\n")
	return f.out
}

// file is what has been written so far, and where each object's number begins in it.
type file struct {
	out    []byte
	places []int
}

func (f *file) put(texts ...string) {
	for _, text := range texts {
		f.out = append(f.out, text...)
	}
}

func (f *file) object(n int, v api.Value) {
	f.places = append(f.places, len(f.out))
	f.put(strconv.Itoa(n), " 0 obj\n")
	if v.Kind == api.Stream {
		f.stream(v)
	} else {
		f.value(v)
	}
	f.put("\nendobj\n")
}

func (f *file) stream(v api.Value) {
	data := packed(v)
	f.dict(streamDict(v, len(data)))
	f.put("\nstream\n")
	f.out = append(f.out, data...)
	f.put("\nendstream")
}

// packed answers a stream's bytes: who reads them begins with the first filter, so that the last one comes first here.
func packed(v api.Value) []byte {
	data := []byte(v.Text)
	for _, filter := range slices.Backward(v.Filters) {
		data = filters.Encode(filter, data)
	}
	return data
}

// streamDict answers the dictionary that stands ahead of so many bytes.
// Its lists are new ones, as those of v may have room that isn't the writer's.
func streamDict(v api.Value, long int) api.Value {
	keys := slices.Concat(v.Keys, []string{document.LengthKey})
	items := slices.Concat(v.Items, []api.Value{{Kind: api.Int, N: long}})
	if len(v.Filters) > 0 {
		keys = append(keys, document.FilterKey)
		items = append(items, filterNames(v.Filters))
	}
	return api.Value{Kind: api.Dict, Keys: keys, Items: items}
}

func filterNames(list []int) api.Value {
	names := api.Value{Kind: api.Array}
	for _, filter := range list {
		names.Items = append(names.Items, api.Value{Kind: api.Name, Text: filters.Name(filter)})
	}
	return names
}

func (f *file) crossTable() {
	f.put("xref\n0 ", strconv.Itoa(len(f.places)+1), "\n0000000000 65535 f \n")
	for _, place := range f.places {
		f.put(text.Padded(place, 10), " 00000 n \n")
	}
}

func (f *file) trailer(root int) {
	f.put("trailer\n")
	f.dict(api.Value{
		Kind:  api.Dict,
		Keys:  []string{"Size", "Root"},
		Items: []api.Value{{Kind: api.Int, N: len(f.places) + 1}, {Kind: api.Ref, N: root}},
	})
	f.put("\n")
}
