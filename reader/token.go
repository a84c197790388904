package reader

import (
	"folio/number"
	"folio/text"
)

const (
	mostOctalDigits = 3
	greatestByte    = 255
)

// name takes what stands behind a name's "/".
func (s *scanner) name() string {
	var out []byte
	for s.plainAhead() {
		b := s.next()
		must(text.InName(b))
		if b == '#' {
			b = hexValue(s.next())<<4 | hexValue(s.next())
			must(b != 0)
		}
		out = append(out, b)
	}
	return string(out)
}

func hexValue(b byte) byte {
	value, ok := text.HexDigit(b)
	must(ok)
	return value
}

// hexText takes what stands behind a string's "<".
func (s *scanner) hexText() string {
	var digits []byte
	for b := s.nextInk(); b != '>'; b = s.nextInk() {
		digits = append(digits, hexValue(b))
	}
	if len(digits)%2 == 1 {
		digits = append(digits, 0)
	}
	var out []byte
	for i := 0; i < len(digits); i += 2 {
		out = append(out, digits[i]<<4|digits[i+1])
	}
	return string(out)
}

// nextInk takes the next byte that is not white. A comment is none here, as this is within a token.
func (s *scanner) nextInk() byte {
	s.at = text.SkipWhite(s.data, s.at)
	return s.next()
}

// quotedText takes what stands behind a string's "(".
func (s *scanner) quotedText() string {
	var out []byte
	open := 1
	for {
		if s.takesLineEnd() {
			out = append(out, '\n')
			continue
		}
		b := s.next()
		switch b {
		case '\\':
			out = s.appendEscaped(out)
			continue
		case '(':
			open++
		case ')':
			open--
		}
		if open == 0 {
			return string(out)
		}
		out = append(out, b)
	}
}

// appendEscaped takes what stands behind a "\" and appends what both mean together.
func (s *scanner) appendEscaped(out []byte) []byte {
	if s.takesLineEnd() {
		return out
	}
	if s.octalAhead() {
		return append(out, s.octal())
	}
	return append(out, escaped(s.next()))
}

func (s *scanner) octalAhead() bool {
	return s.left() > 0 && number.Within(s.data[s.at], '0', '7')
}

func (s *scanner) octal() byte {
	n := 0
	for i := 0; i < mostOctalDigits && s.octalAhead(); i++ {
		n = n*8 + int(s.next()-'0')
	}
	must(number.Within(n, 0, greatestByte))
	return byte(n)
}

// escaped answers the byte that this one means behind a "\".
func escaped(b byte) byte {
	switch b {
	case 'n':
		return '\n'
	case 'r':
		return '\r'
	case 't':
		return '\t'
	case 'b':
		return '\b'
	case 'f':
		return '\f'
	}
	must(b == '(' || b == ')' || b == '\\')
	return b
}
