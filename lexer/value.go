package lexer

import (
	"bytes"
	"cmp"
	"strings"

	"metrolab/api"
	"metrolab/ratio"
)

// Value returns the number with a text.
func Value(s string) (api.Rat, api.Errno) {
	if e := Number(s); e != api.OK {
		return "", e
	}
	natural, behind, _ := strings.Cut(s, ".")
	digits := strings.TrimLeft(natural+behind, "0")
	return ratio.Make(api.Int(cmp.Or(digits, "0")), api.Int("1"+strings.Repeat("0", len(behind))))
}

// Signed returns the number that begins at an index, and the index behind it.
func Signed(l []api.Token, at int) (api.Rat, int, api.Errno) {
	if at < 0 || at >= len(l) {
		return "", 0, api.ErrRange
	}
	minus := isSign(l[at], "-")
	if minus || isSign(l[at], "+") {
		at++
	}
	if at == len(l) || l[at].Kind != api.TokenNumber {
		return "", 0, api.ErrSyntax
	}
	x, e := Value(l[at].Text)
	if e != api.OK {
		return "", 0, e
	}
	if minus {
		x, e = ratio.Neg(x)
	}
	return x, at + 1, e
}

// Decimal returns a number as decimal digits.
func Decimal(x api.Rat) (string, api.Errno) {
	num, den, e := ratio.Parts(x)
	if e != api.OK {
		return "", e
	}
	natural, minus := strings.CutPrefix(string(num), "-")
	// The digits may be more than an Int has.
	digits, rest := []byte(natural), []byte(den)
	for string(rest) != "1" {
		divisor := common(rest)
		if divisor == 1 {
			return "", api.ErrState
		}
		digits = append(digits, '0')
		divide(digits, divisor)
		divide(rest, divisor)
		rest = bytes.TrimLeft(rest, "0")
	}
	return written(minus, digits[:len(natural)], digits[len(natural):]), api.OK
}

// common returns the greatest common divisor of an integer and 10.
func common(digits []byte) int {
	switch digits[len(digits)-1] {
	case '0':
		return 10
	case '5':
		return 5
	case '2', '4', '6', '8':
		return 2
	}
	return 1
}

// divide divides decimal digits by a divisor of the integer that they are.
func divide(digits []byte, divisor int) {
	rest := 0
	for i, c := range digits {
		rest = rest*10 + int(c-'0')
		digits[i] = byte('0' + rest/divisor)
		rest %= divisor
	}
}

// written returns the text of a number with digits before and behind a point.
func written(minus bool, before, behind []byte) string {
	text := cmp.Or(string(bytes.TrimLeft(before, "0")), "0")
	if minus {
		text = "-" + text
	}
	if len(behind) > 0 {
		text += "." + string(behind)
	}
	return text
}
