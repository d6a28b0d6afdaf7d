package lexer

import (
	"iter"
	"strings"

	"metrolab/api"
)

// The classes of bytes. Those that cannot be in a text have none.
const (
	blank = 1 << iota
	letter
	digit
	line
	point
	sign
)

// none is no kind of tokens: that of a byte that cannot be where it is.
const none = -1

// classes has the bytes of each class.
var classes = [...]struct {
	bytes string
	class int
}{
	{" ", blank},
	{"ABCDEFGHIJKLMNOPQRSTUVWXYZabcdefghijklmnopqrstuvwxyz", letter},
	{"0123456789", digit},
	{"_", line},
	{".", point},
	{",;:()[]=+-*/<>|#", sign},
}

func class(c byte) int {
	for _, row := range classes {
		if strings.IndexByte(row.bytes, c) >= 0 {
			return row.class
		}
	}
	return 0
}

// runs yields the longest words, numbers and signs of a text, and the bytes that cannot be where they are, as tokens.
// Numbers may begin with zeros.
func runs(text string) iter.Seq[api.Token] {
	return func(yield func(api.Token) bool) {
		for at := 0; at < len(text); {
			if class(text[at]) == blank {
				at++
				continue
			}
			kind, n := first(text[at:])
			if !yield(api.Token{Kind: kind, Text: text[at : at+n], At: at}) {
				return
			}
			at += n
		}
	}
}

// first returns the kind and the length of the longest word, number or sign at the beginning of a text,
// or none and the length of a byte that cannot be there.
func first(s string) (int, int) {
	if s == "" {
		return none, 0
	}
	switch class(s[0]) {
	case letter:
		return api.TokenWord, length(s, letter|digit|line)
	case digit:
		n := length(s, digit)
		return api.TokenNumber, n + fraction(s[n:])
	case sign:
		return api.TokenSign, 1
	}
	return none, 1
}

// length returns how many bytes of some classes a text begins with.
func length(s string, classes int) int {
	n := 0
	for n < len(s) && class(s[n])&classes != 0 {
		n++
	}
	return n
}

// fraction returns how many bytes of a point and digits a text begins with, and 0 without a point or without digits.
func fraction(s string) int {
	if s == "" || class(s[0]) != point {
		return 0
	}
	n := length(s[1:], digit)
	if n == 0 {
		return 0
	}
	return 1 + n
}
