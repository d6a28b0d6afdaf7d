package drawing

import (
	"slices"
	"strconv"

	"metrolab/api"
)

// scan reads the words of a line from left to right. Its error is ErrSyntax if one of them is wrong, and otherwise ErrRange if a number is too great.
type scan struct {
	rest []string
	e    api.Errno
}

// word returns the next word.
func (s *scan) word() string {
	if len(s.rest) == 0 {
		s.e = api.ErrSyntax
		return ""
	}
	word := s.rest[0]
	s.rest = s.rest[1:]
	return word
}

// choice returns which one of several words the next one is.
func (s *scan) choice(l ...string) int {
	i := slices.Index(l, s.word())
	if i < 0 {
		s.e = api.ErrSyntax
	}
	return i
}

// most is the greatest number with as many digits as a number may have.
const most = 999999

// number returns the next word as a number.
func (s *scan) number() int {
	word := s.word()
	n, _ := strconv.Atoi(word)
	switch {
	case strconv.Itoa(n) != word || n < -most || n > most:
		s.e = api.ErrSyntax
	case (n < -api.MaxCoord || n > api.MaxCoord) && s.e == api.OK:
		s.e = api.ErrRange
	}
	return n
}

// limits returns the next two words as limits.
func (s *scan) limits() api.Limits { return api.Limits{Low: s.number(), High: s.number()} }

// end returns the error of the line, all words of which should have been read.
func (s *scan) end() api.Errno {
	if len(s.rest) > 0 {
		return api.ErrSyntax
	}
	return s.e
}
