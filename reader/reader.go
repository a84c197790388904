// Package reader makes documents of files. It trusts its caller with how many bytes go in, and with catching what it gives up with.
package reader

import (
	"strconv"

	"folio/api"
	"folio/document"
	"folio/text"
)

// Document answers the document that the bytes mean, of whose streams at most so many bytes come out.
// Where it can't, it panics with an api.Errno. All that is asked of a file comes ahead of the first stream's bytes.
func Document(data []byte, most int) api.Document {
	f := &file{scanner: scanner{data: data}}
	d := f.document()
	must(document.Is(d))
	for i, v := range d.Objects {
		if v.Kind == api.Stream {
			d.Objects[i].Text = unpacked(v.Filters, f.packed[i], most)
			most -= len(d.Objects[i].Text)
		}
	}
	return d
}

// file is what has been read so far.
type file struct {
	scanner
	objects []api.Value
	packed  [][]byte // of each object that is a stream, its bytes
	places  []int    // where each object's number begins
}

// document takes the whole file, its streams' bytes aside.
func (f *file) document() api.Document {
	must(f.takes("%PDF-1.4\n"))
	for f.skip(); !f.ahead("xref"); f.skip() {
		f.object()
	}
	table := f.at
	f.crossTable()
	root := f.trailer()
	f.end(table)
	return api.Document{Objects: f.objects, Root: root}
}

func (f *file) object() {
	f.places = append(f.places, f.at)
	must(f.takesWord(strconv.Itoa(len(f.places))) && f.takesWord("0") && f.takesWord("obj"))
	v := f.value(1)
	var packed []byte
	if v.Kind == api.Dict && f.takesWord("stream") {
		v, packed = f.stream(v)
	}
	must(f.takesWord("endobj"))
	f.objects = append(f.objects, v)
	f.packed = append(f.packed, packed)
}

func (f *file) crossTable() {
	must(f.takes("xref\n0 " + strconv.Itoa(f.size()) + "\n"))
	f.tableLine("0000000000 65535 f")
	for _, place := range f.places {
		f.tableLine(text.Padded(place, 10) + " 00000 n")
	}
}

// size is what a file tells of how many objects it has: one more, as a table begins with a line that is no object's.
func (f *file) size() int {
	return len(f.objects) + 1
}

func (f *file) tableLine(line string) {
	must(f.takes(line))
	must(f.takes(" \n") || f.takes("\r\n"))
}

// trailer takes what stands behind the table, and answers which object is the root.
func (f *file) trailer() int {
	must(f.takesWord("trailer") && f.takesMark("<<"))
	dict := f.dict(1)
	must(len(dict.Keys) == 2)
	must(itemOf(dict, "Size", api.Int).N == f.size())
	return itemOf(dict, "Root", api.Ref).N
}

func (f *file) end(table int) {
	must(f.takesWord("startxref") && f.takesWord(strconv.Itoa(table)))
	must(f.takesLineEnd() && f.takes("%%EOF"))
	f.takesLineEnd()
	must(f.left() == 0)
}
