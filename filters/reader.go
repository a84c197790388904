package filters

import (
	"folio/api"
	"folio/number"
	"folio/text"
)

// reader goes through data from its beginning on and gathers what comes out.
// It gives up by panic, so that no filter has to carry errors upward.
type reader struct {
	data []byte
	at   int
	out  []byte
	most int
}

// must gives up unless the data is as it has to be.
func must(right bool) {
	if !right {
		panic(api.ErrData)
	}
}

// next takes the next byte, white or not.
func (r *reader) next() byte {
	return r.take(1)[0]
}

// take takes the next n bytes; they are still the caller's memory.
func (r *reader) take(n int) []byte {
	must(n <= len(r.data)-r.at)
	taken := r.data[r.at : r.at+n]
	r.at += n
	return taken
}

// nextInk takes the next byte that is not white.
func (r *reader) nextInk() byte {
	r.skipWhite()
	return r.next()
}

func (r *reader) skipWhite() {
	r.at = text.SkipWhite(r.data, r.at)
}

// end gives up if anything is left.
func (r *reader) end() {
	must(r.at == len(r.data))
}

// room gives up if n bytes are more than may still come out.
func (r *reader) room(n int) {
	if !number.Within(n, 0, r.most-len(r.out)) {
		panic(api.ErrCap)
	}
}

func (r *reader) put(part ...byte) {
	r.room(len(part))
	r.out = append(r.out, part...)
}

func (r *reader) repeat(b byte, n int) {
	r.room(n)
	for range n {
		r.out = append(r.out, b)
	}
}
