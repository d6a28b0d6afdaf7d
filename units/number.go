package units

import (
	"strconv"
	"strings"

	"metrolab/api"
)

// maxDigits is how many digits there are at most before and behind a point or "/".
const maxDigits = 6

// number has the digits of a number: those behind a point and those below a fraction are empty if they are not written.
type number struct {
	minus                 bool
	digits, behind, below string
}

// reader reads the beginning of a text and returns the rest, or false if the text does not begin like this.
type reader func(s string) (string, bool)

// read returns the number with a text.
func read(text string) (number, api.Errno) {
	n := number{minus: strings.HasPrefix(text, "-")}
	point := inTurn(mark("."), digits(&n.behind))
	fraction := inTurn(mark("/"), natural(&n.below))
	rest, ok := inTurn(perhaps(mark("-")), natural(&n.digits), perhaps(point, fraction))(text)
	switch {
	case !ok || rest != "":
		return number{}, api.ErrSyntax
	case max(len(n.digits), len(n.behind), len(n.below)) > maxDigits:
		return number{}, api.ErrLarge
	case n.below == "0":
		return number{}, api.ErrZero
	}
	return n, api.OK
}

// fraction returns a numerator and a denominator, which is positive.
func (n number) fraction() (int, int) {
	num := value(n.digits + n.behind)
	if n.minus {
		num = -num
	}
	if n.below != "" {
		return num, value(n.below)
	}
	return num, value("1" + strings.Repeat("0", len(n.behind)))
}

// value returns the value of digits that are few enough for an int.
func value(digits string) int {
	n, _ := strconv.Atoi(digits)
	return n
}

// mark returns a reader of a text that is always the same.
func mark(text string) reader {
	return func(s string) (string, bool) { return strings.CutPrefix(s, text) }
}

// digits returns a reader that keeps one or more digits.
func digits(kept *string) reader {
	return func(s string) (string, bool) {
		rest := strings.TrimLeft(s, "0123456789")
		*kept = s[:len(s)-len(rest)]
		return rest, *kept != ""
	}
}

// natural returns a reader that keeps a natural number.
func natural(kept *string) reader {
	read := digits(kept)
	return func(s string) (string, bool) {
		rest, ok := read(s)
		return rest, ok && (*kept == "0" || !strings.HasPrefix(s, "0"))
	}
}

// inTurn returns a reader of what some readers read, one behind the other.
func inTurn(readers ...reader) reader {
	return func(s string) (string, bool) {
		for _, read := range readers {
			rest, ok := read(s)
			if !ok {
				return s, false
			}
			s = rest
		}
		return s, true
	}
}

// perhaps returns a reader of what the first of some readers reads that can, or of nothing if none can.
func perhaps(readers ...reader) reader {
	return func(s string) (string, bool) {
		for _, read := range readers {
			if rest, ok := read(s); ok {
				return rest, true
			}
		}
		return s, true
	}
}
