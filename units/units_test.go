package units_test

import (
	"math"
	"math/big"
	"math/rand"
	"regexp"
	"strconv"
	"strings"
	"testing"

	"metrolab/api"
	"metrolab/units"
)

func expect[T comparable](t *testing.T, what string, got T, e api.Errno, want T, error api.Errno) {
	t.Helper()
	if got != want || e != error {
		t.Errorf("%s: %v, error %d instead of %v, error %d", what, got, e, want, error)
	}
}

var words = []string{"um", "mm", "cm", "in", "thou"}

// sizes are the units in micrometres.
var sizes = []*big.Rat{big.NewRat(1, 1), big.NewRat(1000, 1), big.NewRat(10000, 1), big.NewRat(25400, 1), big.NewRat(127, 5)}

var number = regexp.MustCompile(`^-?(0|[1-9][0-9]*)(\.[0-9]+|/(0|[1-9][0-9]*))?$`)

var tooMany = regexp.MustCompile(`[0-9]{7}`)

// model returns the value of a text by its definition.
func model(s string) (*big.Rat, api.Errno) {
	if len(s) > 40 {
		return nil, api.ErrLong
	}
	text, word, _ := strings.Cut(s, " ")
	switch {
	case !number.MatchString(text):
		return nil, api.ErrSyntax
	case tooMany.MatchString(text):
		return nil, api.ErrLarge
	case strings.HasSuffix(text, "/0"):
		return nil, api.ErrZero
	}
	for unit, w := range words {
		if w == word {
			v, _ := new(big.Rat).SetString(text)
			v.Mul(v, sizes[unit])
			if new(big.Rat).Abs(v).Cmp(big.NewRat(api.MaxCoord, 1)) > 0 {
				return nil, api.ErrRange
			}
			return v, api.OK
		}
	}
	return nil, api.ErrUnit
}

// compare compares Exact and Parse with the model, and returns the error of Exact.
func compare(t *testing.T, s string) api.Errno {
	t.Helper()
	v, error := model(s)
	exact, whole, stated := "", 0, error
	if error == api.OK {
		exact = v.RatString()
		if v.IsInt() {
			whole = int(v.Num().Int64())
		} else {
			stated = api.ErrState
		}
	}
	x, e := units.Exact(s)
	expect(t, "Exact("+strconv.Quote(s)+")", x, e, api.Rat(exact), error)
	n, e := units.Parse(s)
	expect(t, "Parse("+strconv.Quote(s)+")", n, e, whole, stated)
	return error
}

// P13.1

func TestWords(t *testing.T) {
	if units.Units != len(words) || units.MaxLength != 40 {
		t.Errorf("%d units, %d bytes", units.Units, units.MaxLength)
	}
	for unit, word := range words {
		u, e := units.Unit(word)
		expect(t, "Unit "+word, u, e, unit, api.OK)
		w, e := units.Word(unit)
		expect(t, "Word "+word, w, e, word, api.OK)
	}
	for _, word := range []string{"", " ", "m", "MM", "Um", "mm ", " mm", "inch", "thous", "cmm", "\xffm"} {
		u, e := units.Unit(word)
		expect(t, "Unit "+word, u, e, 0, api.ErrUnit)
	}
	for _, unit := range []int{-1, units.Units, math.MaxInt, math.MinInt} {
		w, e := units.Word(unit)
		expect(t, "Word", w, e, "", api.ErrUnit)
	}
}

func TestExamples(t *testing.T) {
	for _, x := range []struct {
		s string
		r api.Rat
		n int
		e api.Errno
	}{
		{"12.5 mm", "12500", 12500, api.OK}, {"0.3 um", "3/10", 0, api.ErrState}, {"1/8 in", "3175", 3175, api.OK}, {"-2 cm", "-20000", -20000, api.OK}, {"1/3 mm", "1000/3", 0, api.ErrState},
		{"-0 um", "0", 0, api.OK}, {"-0.000 in", "0", 0, api.OK}, {"-0/7 thou", "0", 0, api.OK}, {"-1/999999 thou", "-127/4999995", 0, api.ErrState}, {"0.000001 um", "1/1000000", 0, api.ErrState}, {"6/4 um", "3/2", 0, api.ErrState}, {"999999/999999 mm", "1000", 1000, api.OK},
		{"100000 um", "100000", 100000, api.OK}, {"-10 cm", "-100000", -100000, api.OK}, {"10.000000 cm", "100000", 100000, api.OK}, {"3.937007 in", "999999778/10000", 0, api.ErrState},
	} {
		r, e := units.Exact(x.s)
		if v, _ := new(big.Rat).SetString(string(x.r)); string(r) != v.RatString() || e != api.OK {
			t.Errorf("Exact(%q): %s, error %d instead of %s", x.s, r, e, v.RatString())
		}
		n, e := units.Parse(x.s)
		expect(t, "Parse "+x.s, n, e, x.n, x.e)
		compare(t, x.s)
	}
}

func TestErrors(t *testing.T) {
	for s, error := range map[string]api.Errno{
		"5": api.ErrUnit, "05 mm": api.ErrSyntax, ".5 mm": api.ErrSyntax, "4 in": api.ErrRange,
		"": api.ErrSyntax, " ": api.ErrSyntax, "-": api.ErrSyntax, " 5 mm": api.ErrSyntax, "+5 mm": api.ErrSyntax, "- 5 mm": api.ErrSyntax, "--5 mm": api.ErrSyntax, "5mm": api.ErrSyntax, "5\tmm": api.ErrSyntax, "5\u00a0mm": api.ErrSyntax,
		"-05 mm": api.ErrSyntax, "00 mm": api.ErrSyntax, "00.5 mm": api.ErrSyntax, "5. mm": api.ErrSyntax, "5.-5 mm": api.ErrSyntax, "1.5/2 mm": api.ErrSyntax, "1/2.5 mm": api.ErrSyntax, "1/-2 mm": api.ErrSyntax, "1/ mm": api.ErrSyntax, "/2 mm": api.ErrSyntax,
		"1/02 mm": api.ErrSyntax, "1/00 mm": api.ErrSyntax, "01/2 mm": api.ErrSyntax, "1/2/3 mm": api.ErrSyntax, "1e3 um": api.ErrSyntax, "0x1 um": api.ErrSyntax, "1_0 um": api.ErrSyntax, "\u0665 mm": api.ErrSyntax, "1,5 mm": api.ErrSyntax, "x mm": api.ErrSyntax, "012345678 mm": api.ErrSyntax,
		"1234567 um": api.ErrLarge, "-1234567": api.ErrLarge, "1.0000000 um": api.ErrLarge, "1234567/0": api.ErrLarge, "1/1234567 x": api.ErrLarge, "0/1000000 um": api.ErrLarge,
		"1/0 mm": api.ErrZero, "0/0": api.ErrZero, "-5/0 m": api.ErrZero, "123456/0 in": api.ErrZero,
		"5 ": api.ErrUnit, "5  mm": api.ErrUnit, "5 mm ": api.ErrUnit, "5 mm mm": api.ErrUnit, "5 Mm": api.ErrUnit, "999999 m": api.ErrUnit, "1/3": api.ErrUnit, "-0.5": api.ErrUnit,
		"100001 um": api.ErrRange, "-100000.000001 um": api.ErrRange, "100.000001 mm": api.ErrRange, "10.00001 cm": api.ErrRange, "3.937008 in": api.ErrRange, "-3938 thou": api.ErrRange, "999999/1 in": api.ErrRange, "-999999.999999 in": api.ErrRange, "100001/1 um": api.ErrRange,
		strings.Repeat("1", 37) + " um": api.ErrLarge, strings.Repeat("1", 38) + " um": api.ErrLong, strings.Repeat(" ", 41): api.ErrLong, "5 mm" + strings.Repeat(" ", 36): api.ErrUnit, "5 mm" + strings.Repeat(" ", 37): api.ErrLong, strings.Repeat("x", 1<<20): api.ErrLong,
	} {
		if e := compare(t, s); e != error {
			t.Errorf("the model has error %d for %q, not %d", e, s, error)
		}
	}
}

// All short texts of the bytes that numbers have, and random texts that are nearly lengths.
func TestTexts(t *testing.T) {
	var all func(s string, more int)
	all = func(s string, more int) {
		compare(t, s)
		compare(t, s+" cm")
		for _, c := range "-012./ " {
			if more > 0 {
				all(s+string(c), more-1)
			}
		}
	}
	all("", 5)
	r := rand.New(rand.NewSource(13))
	found := map[api.Errno]int{}
	digits := func() string { return strconv.Itoa(r.Intn([]int{10, 100, 1000, 1000000, 2000000}[r.Intn(5)])) }
	for range 50000 {
		s := []string{"", "-"}[r.Intn(2)] + digits()
		switch r.Intn(5) {
		case 0, 1:
			s += "." + digits()
		case 2, 3:
			s += "/" + digits()
		}
		s += " " + words[r.Intn(len(words))]
		if r.Intn(10) == 0 {
			at := r.Intn(len(s))
			s = s[:at] + string("-0123456789./ muciantho"[r.Intn(23)]) + s[at+1:]
		}
		found[compare(t, s)]++
	}
	for _, e := range []api.Errno{api.OK, api.ErrSyntax, api.ErrLarge, api.ErrZero, api.ErrUnit, api.ErrRange} {
		if found[e] < 20 {
			t.Errorf("only %d texts with error %d", found[e], e)
		}
	}
}

// P13.2

// written returns the text of a length in a unit by its definition.
func written(um, unit int) string {
	v := new(big.Rat).Quo(big.NewRat(int64(um), 1), sizes[unit])
	if unit >= units.In || v.IsInt() {
		return v.RatString() + " " + words[unit]
	}
	return strings.TrimRight(v.FloatString(6), "0") + " " + words[unit]
}

func TestFormat(t *testing.T) {
	for unit, s := range []string{"3175 um", "3.175 mm", "0.3175 cm", "1/8 in", "125 thou"} {
		got, e := units.Format(3175, unit)
		expect(t, "example", got, e, s, api.OK)
	}
	for um := -api.MaxCoord; um <= api.MaxCoord; um++ {
		for unit := range words {
			if um%7 != 0 && um%250 != 0 && um%127 != 0 && max(um, -um) > 100 {
				continue
			}
			s, e := units.Format(um, unit)
			expect(t, "Format "+strconv.Itoa(um), s, e, written(um, unit), api.OK)
		}
	}
	for _, um := range []int{api.MaxCoord + 1, -api.MaxCoord - 1, math.MaxInt, math.MinInt} {
		for _, unit := range []int{units.Um, units.In, -1, units.Units} {
			s, e := units.Format(um, unit)
			expect(t, "Format", s, e, "", api.ErrRange)
		}
	}
	for _, unit := range []int{-1, units.Units, math.MaxInt, math.MinInt} {
		for _, um := range []int{0, api.MaxCoord, -api.MaxCoord} {
			s, e := units.Format(um, unit)
			expect(t, "Format", s, e, "", api.ErrUnit)
		}
	}
}

// P13.3

func TestReadBack(t *testing.T) {
	for um := -api.MaxCoord; um <= api.MaxCoord; um += 11 {
		for unit := range words {
			s, e := units.Format(um, unit)
			if e != api.OK {
				t.Fatalf("Format(%d, %d): error %d", um, unit, e)
			}
			n, e := units.Parse(s)
			expect(t, "Parse "+s, n, e, um, api.OK)
		}
	}
}

func TestUnitsOfUnits(t *testing.T) {
	of := func(text string, unit int, factor int64) string {
		t.Helper()
		x, e := units.Exact(text + " " + words[unit])
		v, ok := new(big.Rat).SetString(string(x))
		if !ok || e != api.OK {
			t.Fatalf("%s %s: %s, error %d", text, words[unit], x, e)
		}
		return v.Mul(v, big.NewRat(factor, 1)).RatString()
	}
	same := func(what string, a, b string) {
		t.Helper()
		if a != b {
			t.Errorf("%s: %s and %s", what, a, b)
		}
	}
	for _, s := range []string{"0", "1", "-1", "0.5", "1/3", "-2/7", "3.999999", "9.999999", "999999/123456", "1/999999"} {
		same("cm and mm "+s, of(s, units.Cm, 1), of(s, units.Mm, 10))
		same("mm and um "+s, of(s, units.Mm, 1), of(s, units.Um, 1000))
	}
	for _, s := range []string{"0", "1", "-3", "0.125", "2/3", "3.937"} {
		same("in and thou "+s, of(s, units.In, 1), of(s, units.Thou, 1000))
	}
	same("a thousand thou", of("1000", units.Thou, 1), of("1", units.In, 1))
	for _, n := range []int{1, 2, 3, 7, 64, 127, 255, 256} {
		for unit, word := range words {
			l := make([]string, n)
			for i := range l {
				l[i] = "1/" + strconv.Itoa(n) + " " + word
			}
			sum, e := units.Sum(l)
			if unit == units.Thou {
				expect(t, "parts of a thou", sum, e, 0, api.ErrState)
				continue
			}
			expect(t, "parts of a "+word, sum, e, int(sizes[unit].Num().Int64()), api.OK)
		}
	}
}
