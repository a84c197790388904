package reader

import (
	"folio/api"
	"folio/document"
	"folio/filters"
	"folio/number"
)

// stream takes what stands behind a stream's dictionary and the word that makes it one.
func (s *scanner) stream(dict api.Value) (v api.Value, packed []byte) {
	must(s.takes("\n") || s.takes("\r\n"))
	packed = s.take(itemOf(dict, document.LengthKey, api.Int).N)
	must(s.takes("\n") && s.plain() == "endstream")
	return streamOf(dict), packed
}

// streamOf answers the stream of a dictionary, its Text aside: what tells of the bytes in the file is not the document's.
func streamOf(dict api.Value) api.Value {
	v := api.Value{Kind: api.Stream, Filters: filtersOf(dict)}
	for i, key := range dict.Keys {
		if key != document.LengthKey && key != document.FilterKey {
			v.Keys = append(v.Keys, key)
			v.Items = append(v.Items, dict.Items[i])
		}
	}
	return v
}

func filtersOf(dict api.Value) []int {
	var list []int
	for _, name := range filterNames(dict) {
		filter := filters.Named(name.Text)
		must(name.Kind == api.Name && number.Within(filter, api.Hex, api.Flate))
		list = append(list, filter)
	}
	return list
}

// filterNames answers what should be names. That they are not too many is asked of the document that they belong to.
func filterNames(dict api.Value) []api.Value {
	told := itemsOf(dict, document.FilterKey)
	must(len(told) <= 1)
	if len(told) == 1 && told[0].Kind != api.Name {
		must(told[0].Kind == api.Array)
		return told[0].Items
	}
	return told
}

// unpacked answers the Text of a stream, of which at most so many bytes may come out by each of its filters.
func unpacked(list []int, packed []byte, most int) string {
	data := packed
	for _, filter := range list {
		data = filters.Decode(filter, data, most)
	}
	if !number.Within(len(data), 0, most) {
		panic(api.ErrCap)
	}
	must(number.Within(len(data), 0, api.MaxData))
	return string(data)
}
