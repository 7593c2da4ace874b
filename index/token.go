package index

import "strings"

// Place is what the reader of a text panics with: where the text is wrong.
type Place int

// The kind of a token is its byte, if it is one of the marks, or one of these.
const (
	kindEnd    = 0 // no token: the text has ended
	kindNumber = '0'
	kindString = '"'
)

const (
	marks      = "{}[]:,"
	spaces     = "\t\n\r "
	mostDigits = 9
	leastByte  = 32 // of a string
	mostByte   = 126
)

type token struct {
	kind   byte
	place  int
	number int
	text   string
}

// must gives up reading where the token may not stand.
func (t token) must(stand bool) {
	if !stand {
		panic(Place(t.place))
	}
}

// scanner goes through a text by tokens, no further than it is asked: so the first wrong one is told, whatever stands behind it.
type scanner struct {
	text string
	at   int
}

func (s *scanner) next() token {
	s.skipSpaces()
	t := token{place: s.at}
	if s.at == len(s.text) {
		t.kind = kindEnd
		return t
	}
	switch b := s.text[s.at]; {
	case strings.IndexByte(marks, b) >= 0:
		t.kind = b
		s.at++
	case isDigit(b):
		t.kind = kindNumber
		t.number = s.scanNumber(t)
	case b == '"':
		t.kind = kindString
		t.text = s.scanString(t)
	default:
		t.must(false)
	}
	return t
}

func (s *scanner) skipSpaces() {
	for s.at < len(s.text) && strings.IndexByte(spaces, s.text[s.at]) >= 0 {
		s.at++
	}
}

func (s *scanner) scanNumber(t token) int {
	number := 0
	for s.at < len(s.text) && isDigit(s.text[s.at]) {
		leadingZero := s.at > t.place && number == 0
		t.must(!leadingZero && s.at < t.place+mostDigits)
		number = 10*number + int(s.text[s.at]-'0')
		s.at++
	}
	return number
}

func (s *scanner) scanString(t token) string {
	var text strings.Builder
	s.at++
	for {
		b := s.byteOf(t)
		if b == '"' {
			return text.String()
		}
		if b == '\\' {
			b = s.byteOf(t)
			t.must(b == '"' || b == '\\')
		}
		text.WriteByte(b)
	}
}

// byteOf takes the next byte of the string t, which is none if there is no such byte.
func (s *scanner) byteOf(t token) byte {
	t.must(s.at < len(s.text))
	b := s.text[s.at]
	t.must(leastByte <= b && b <= mostByte)
	s.at++
	return b
}
