package dimension_test

import (
	"fmt"
	"math"
	"regexp"
	"strconv"
	"strings"
	"testing"

	"metrolab/api"
	"metrolab/dimension"
)

// expect compares results.
func expect(t *testing.T, what string, got, want []any) {
	t.Helper()
	if g, w := fmt.Sprintf("%+v", got), fmt.Sprintf("%+v", want); g != w {
		t.Errorf("%s: %s instead of %s", what, g, w)
	}
}

func results(l ...any) []any { return l }

func limits(low, high int) api.Limits { return api.Limits{Low: low, High: high} }

var none api.Limits

// numbers has ordinary numbers, those at the ends of the range, and those beyond.
var numbers = []int{math.MinInt, math.MinInt + 1, -200000, -100001, -100000, -99999, -50000, -7, -1, 0, 1, 6, 50000, 50001, 99999, 100000, 100001, 200000, math.MaxInt - 1, math.MaxInt}

func beyond(n int) bool { return n < -100000 || n > 100000 }

// wrong has what are no limits, with their errors.
var wrong = []struct {
	l api.Limits
	e api.Errno
}{
	{limits(3, 2), api.ErrOrder}, {limits(0, -1), api.ErrOrder}, {limits(100000, -100000), api.ErrOrder},
	{limits(-100001, 0), api.ErrRange}, {limits(0, 100001), api.ErrRange}, {limits(100001, 100001), api.ErrRange}, {limits(-100001, -100001), api.ErrRange},
	{limits(100001, 0), api.ErrRange}, {limits(0, -100001), api.ErrRange}, {limits(math.MaxInt, math.MinInt), api.ErrRange}, {limits(math.MinInt, math.MaxInt), api.ErrRange}, {limits(math.MinInt, math.MinInt), api.ErrRange},
}

// some has limits.
var some = []api.Limits{none, limits(0, 1), limits(5, 5), limits(-3, 8), limits(-8, -3), limits(8, 12), limits(9, 10), limits(-100000, 100000), limits(-100000, -100000), limits(100000, 100000), limits(-50000, 50000), limits(-50001, 50001), limits(0, 50000), limits(-50001, 0)}

// P17.1

func TestName(t *testing.T) {
	right := regexp.MustCompile(`^[A-Za-z][A-Za-z0-9]*$`)
	compare := func(s string) {
		t.Helper()
		error := api.OK
		switch {
		case len(s) > 24:
			error = api.ErrLong
		case !right.MatchString(s) || strings.HasSuffix(s, "\n"):
			error = api.ErrForm
		}
		expect(t, strconv.Quote(s), results(dimension.Name(s)), results(error))
	}
	for i := range 256 {
		c := string([]byte{byte(i)})
		for _, s := range []string{c, c + "a", "a" + c, "Z" + c + "9", c + c, strings.Repeat("x", 23) + c, strings.Repeat(c, 24), strings.Repeat(c, 25)} {
			compare(s)
		}
	}
	for _, s := range []string{"", "A1", "1A", "A_1", "z9Z", "a b", "É", "aé", "a٣", "\u212a", "\uff21", "a\xff", "a\xc3", strings.Repeat("b", 24), strings.Repeat("b", 25), strings.Repeat("-", 25), strings.Repeat("é", 12), strings.Repeat("é", 13), strings.Repeat("b", 5000)} {
		compare(s)
	}
}

func TestCheck(t *testing.T) {
	for _, low := range numbers {
		for _, high := range numbers {
			error := api.OK
			switch {
			case beyond(low) || beyond(high):
				error = api.ErrRange
			case low > high:
				error = api.ErrOrder
			}
			expect(t, fmt.Sprint("Check ", low, high), results(dimension.Check(limits(low, high))), results(error))
		}
	}
	for _, l := range some {
		expect(t, fmt.Sprint("Check ", l), results(dimension.Check(l)), results(api.OK))
	}
}

func TestOf(t *testing.T) {
	for _, x := range []struct {
		nominal, low, high int
		l                  api.Limits
		e                  api.Errno
	}{
		{10000, -50, 20, limits(9950, 10020), api.OK},
		{99990, -5, 10, limits(99985, 100000), api.OK},
		{99990, -5, 11, none, api.ErrRange},
		{-99990, -10, 0, limits(-100000, -99990), api.OK},
		{-99990, -11, 0, none, api.ErrRange},
		{100000, -100000, 0, limits(0, 100000), api.OK},
		{-100000, 100000, 100000, limits(0, 0), api.OK},
		{100001, -100000, -1, none, api.ErrRange},
		{1, -100001, 0, none, api.ErrRange},
		{-1, 0, 100001, none, api.ErrRange},
		{0, 5, 4, none, api.ErrOrder},
		{100000, 5, 4, none, api.ErrRange},
	} {
		l, e := dimension.Of(x.nominal, x.low, x.high)
		expect(t, fmt.Sprint("Of ", x), results(l, e), results(x.l, x.e))
	}
	for _, nominal := range numbers {
		for _, low := range numbers {
			for _, high := range numbers {
				want, error := none, api.ErrRange
				if !beyond(nominal) && !beyond(low) && !beyond(high) && !beyond(nominal+low) && !beyond(nominal+high) {
					want, error = limits(nominal+low, nominal+high), api.OK
					if low > high {
						want, error = none, api.ErrOrder
					}
				}
				l, e := dimension.Of(nominal, low, high)
				expect(t, fmt.Sprint("Of ", nominal, low, high), results(l, e), results(want, error))
			}
		}
	}
}

func TestWrongLimits(t *testing.T) {
	for _, x := range wrong {
		what := fmt.Sprint(x.l)
		b, e := dimension.Contains(x.l, 0)
		n, g := dimension.Neg(x.l)
		expect(t, what, results(dimension.Check(x.l), b, e, n, g), results(x.e, false, x.e, none, x.e))
		for _, l := range some {
			wrongPair(t, x.l, l, x.e)
			wrongPair(t, l, x.l, x.e)
		}
		for _, y := range wrong {
			wrongPair(t, x.l, y.l, x.e)
		}
	}
}

// wrongPair compares the errors of functions of two limits with one.
func wrongPair(t *testing.T, a, b api.Limits, error api.Errno) {
	t.Helper()
	inside, e := dimension.Inside(a, b)
	meet, f := dimension.Meet(a, b)
	sum, g := dimension.Add(a, b)
	expect(t, fmt.Sprint(a, b), results(inside, e, meet, f, sum, g), results(false, error, none, error, none, error))
}

func TestContains(t *testing.T) {
	for _, l := range some {
		for _, v := range append([]int{l.Low - 1, l.Low, l.Low + 1, l.High - 1, l.High, l.High + 1}, numbers...) {
			b, e := dimension.Contains(l, v)
			expect(t, fmt.Sprint("Contains ", l, v), results(b, e), results(!(v < l.Low) && !(v > l.High), api.OK))
		}
	}
}

func TestPairs(t *testing.T) {
	for _, x := range []struct {
		a, b   api.Limits
		inside bool
		meet   api.Limits
		e      api.Errno
		sum    api.Limits
		g      api.Errno
	}{
		{limits(9950, 10020), limits(10010, 10100), false, limits(10010, 10020), api.OK, limits(19960, 20120), api.OK},
		{limits(9950, 10020), limits(10030, 10100), false, none, api.ErrConflict, limits(19980, 20120), api.OK},
		{limits(1, 5), limits(1, 5), true, limits(1, 5), api.OK, limits(2, 10), api.OK},
		{limits(1, 5), limits(1, 4), false, limits(1, 4), api.OK, limits(2, 9), api.OK},
		{limits(1, 5), limits(2, 5), false, limits(2, 5), api.OK, limits(3, 10), api.OK},
		{limits(2, 4), limits(1, 5), true, limits(2, 4), api.OK, limits(3, 9), api.OK},
		{limits(1, 5), limits(5, 9), false, limits(5, 5), api.OK, limits(6, 14), api.OK},
		{limits(5, 9), limits(1, 5), false, limits(5, 5), api.OK, limits(6, 14), api.OK},
		{limits(6, 9), limits(1, 5), false, none, api.ErrConflict, limits(7, 14), api.OK},
		{limits(0, 50000), limits(-7, 50000), true, limits(0, 50000), api.OK, limits(-7, 100000), api.OK},
		{limits(0, 50001), limits(-7, 50000), false, limits(0, 50000), api.OK, none, api.ErrRange},
		{limits(-50000, 0), limits(-50000, 7), true, limits(-50000, 0), api.OK, limits(-100000, 7), api.OK},
		{limits(-50001, 0), limits(-50000, 7), false, limits(-50000, 0), api.OK, none, api.ErrRange},
		{limits(100000, 100000), limits(-100000, 0), false, none, api.ErrConflict, limits(0, 100000), api.OK},
	} {
		inside, d := dimension.Inside(x.a, x.b)
		meet, e := dimension.Meet(x.a, x.b)
		sum, g := dimension.Add(x.a, x.b)
		expect(t, fmt.Sprint(x.a, x.b), results(inside, d, meet, e, sum, g), results(x.inside, api.OK, x.meet, x.e, x.sum, x.g))
	}
}

func TestNeg(t *testing.T) {
	for _, l := range some {
		n, e := dimension.Neg(l)
		expect(t, fmt.Sprint("Neg ", l), results(n, e), results(limits(-l.High, -l.Low), api.OK))
	}
}

// P17.1 and P17.3: all limits of small numbers are compared with the sets of their values.
func TestSmall(t *testing.T) {
	var small []api.Limits
	for low := -3; low <= 3; low++ {
		for high := low; high <= 3; high++ {
			small = append(small, limits(low, high))
		}
	}
	for _, a := range small {
		for _, b := range small {
			compareSets(t, a, b)
		}
	}
}

// values has the values within limits.
func values(l api.Limits) map[int]bool {
	set := map[int]bool{}
	for v := l.Low; v <= l.High; v++ {
		set[v] = true
	}
	return set
}

func compareSets(t *testing.T, a, b api.Limits) {
	t.Helper()
	what := fmt.Sprint(a, b)
	common, sums, inside := map[int]bool{}, map[int]bool{}, true
	for v := range values(a) {
		inside = inside && values(b)[v]
		if values(b)[v] {
			common[v] = true
		}
		for w := range values(b) {
			sums[v+w] = true
		}
	}
	is, e := dimension.Inside(a, b)
	expect(t, "Inside "+what, results(is, e), results(inside, api.OK))
	sum, e := dimension.Add(a, b)
	expect(t, "Add "+what, results(values(sum), e), results(sums, api.OK))
	meet, e := dimension.Meet(a, b)
	if len(common) == 0 {
		expect(t, "Meet "+what, results(meet, e), results(none, api.ErrConflict))
		return
	}
	expect(t, "Meet "+what, results(values(meet), e), results(common, api.OK))
	for v := -4; v <= 4; v++ {
		x, _ := dimension.Contains(a, v)
		y, _ := dimension.Contains(b, v)
		z, _ := dimension.Contains(meet, v)
		expect(t, fmt.Sprint("Contains ", what, v), results(z), results(x && y))
	}
}
