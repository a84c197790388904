package reader

import (
	"folio/api"
	"folio/number"
	"folio/text"
)

// scanner goes through a file from its beginning on.
// It gives up by panic, so that nothing deep within a file has to carry errors upward.
type scanner struct {
	data []byte
	at   int
}

// must gives up unless the file is as it has to be.
func must(right bool) {
	if !right {
		panic(api.ErrFile)
	}
}

// skip steps over what may stand between tokens.
func (s *scanner) skip() {
look:
	s.at = text.SkipWhite(s.data, s.at)
	if s.ahead("%") {
		s.at = text.SkipLine(s.data, s.at)
		goto look
	}
}

// ahead tells whether these bytes come at once.
func (s *scanner) ahead(bytes string) bool {
	return len(bytes) <= s.left() && string(s.data[s.at:s.at+len(bytes)]) == bytes
}

func (s *scanner) left() int {
	return len(s.data) - s.at
}

// takes steps over these bytes, if they come at once.
func (s *scanner) takes(bytes string) bool {
	comes := s.ahead(bytes)
	if comes {
		s.at += len(bytes)
	}
	return comes
}

func (s *scanner) takesLineEnd() bool {
	return s.takes("\r\n") || s.takes("\n") || s.takes("\r")
}

// takesMark steps over a token made of marks, if it is the next one.
func (s *scanner) takesMark(mark string) bool {
	s.skip()
	return s.takes(mark)
}

// takesWord steps over a word, if it is the next token.
func (s *scanner) takesWord(word string) bool {
	before := s.at
	if s.word() == word {
		return true
	}
	s.at = before
	return false
}

// word takes the next token, which is a word; where it is none, that is an empty text.
func (s *scanner) word() string {
	s.skip()
	return s.plain()
}

// plain takes as many plain bytes as come at once.
func (s *scanner) plain() string {
	begin := s.at
	for s.plainAhead() {
		s.at++
	}
	return string(s.data[begin:s.at])
}

func (s *scanner) plainAhead() bool {
	return s.left() > 0 && text.IsPlain(s.data[s.at])
}

// next takes the next byte, whatever it is.
func (s *scanner) next() byte {
	return s.take(1)[0]
}

// take takes the next n bytes; they are still the caller's memory.
func (s *scanner) take(n int) []byte {
	must(number.Within(n, 0, s.left()))
	taken := s.data[s.at : s.at+n]
	s.at += n
	return taken
}
