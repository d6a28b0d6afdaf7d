package interval_test

import (
	"math"
	"math/big"
	"strings"
	"testing"

	"metrolab/api"
	"metrolab/interval"
	"metrolab/ratio"
)

func span(low, high api.Rat) api.Span { return api.Span{Low: low, High: high} }

func digits(s string, n int) api.Rat { return api.Rat(strings.Repeat(s, n/len(s)+1)[:n]) }

func value(a api.Rat) *big.Rat {
	v, ok := new(big.Rat).SetString(string(a))
	if !ok {
		panic("no number: " + a)
	}
	return v
}

func text(v *big.Rat) api.Rat { return api.Rat(v.RatString()) }

func expect(t *testing.T, what string, got any, e api.Errno, wanted any, error api.Errno) {
	t.Helper()
	if got != wanted || e != error {
		t.Errorf("%s: %v, error %d instead of %v, error %d", what, got, e, wanted, error)
	}
}

// wrong are no spans, with the errors that Check must return.
var wrong = []struct {
	a api.Span
	e api.Errno
}{
	{api.Span{}, api.ErrForm}, {span("", "1"), api.ErrForm}, {span("1", ""), api.ErrForm}, {span("2/4", "1"), api.ErrForm}, {span("0", "3/1"), api.ErrForm}, {span("x", digits("7", 1025)), api.ErrForm}, {span(digits("7", 1025), "x"), api.ErrLarge},
	{span("0", digits("7", 1025)), api.ErrLarge}, {span("0", "1/"+digits("7", 1025)), api.ErrLarge}, {span("1", "0"), api.ErrOrder}, {span("1/2", "1/3"), api.ErrOrder}, {span("-1/3", "-1/2"), api.ErrOrder}, {span("0", "-1"), api.ErrOrder}, {span("10", "9"), api.ErrOrder},
	// As in layer 2, the order of numbers cannot be told if the products that tell it are too long.
	{span("-"+digits("7", 600)+"/"+digits("5", 600)+"2", digits("7", 600)+"/"+digits("5", 600)+"2"), api.ErrLarge}, {span("1/"+digits("7", 600), digits("7", 600)), api.ErrLarge},
}

// some are spans that lie in all ways beside each other.
func some() []api.Span {
	ends := []api.Rat{"-7", "-1", "-1/2", "0", "1/3", "1/2", "1", "7/2", "10"}
	var l []api.Span
	for i, low := range ends {
		for _, high := range ends[i:] {
			l = append(l, span(low, high))
		}
	}
	return l
}

// P3.1

func TestCheck(t *testing.T) {
	for _, x := range wrong {
		if e := interval.Check(x.a); e != x.e {
			t.Errorf("Check(%.9s, %.9s): %d instead of %d", x.a.Low, x.a.High, e, x.e)
		}
	}
	for _, a := range append(some(), span("0", "0"), span("-1/2", "-1/2"), span("0", digits("9", 1024)), span("-1/"+digits("9", 1024), "1")) {
		if e := interval.Check(a); e != api.OK {
			t.Errorf("Check(%.9s, %.9s): %d", a.Low, a.High, e)
		}
	}
}

func TestOf(t *testing.T) {
	for _, x := range []struct {
		low, high int
		a         api.Span
		e         api.Errno
	}{{-3, 7, span("-3", "7"), api.OK}, {5, 5, span("5", "5"), api.OK}, {math.MinInt64, math.MaxInt64, span("-9223372036854775808", "9223372036854775807"), api.OK}, {1, 0, api.Span{}, api.ErrOrder}, {math.MaxInt64, math.MinInt64, api.Span{}, api.ErrOrder}} {
		a, e := interval.Of(x.low, x.high)
		expect(t, "Of", a, e, x.a, x.e)
	}
}

type withOne func(a api.Span) (any, any, api.Errno)

type withTwo func(a, b api.Span) (any, any, api.Errno)

func number(f func(a api.Span) (api.Rat, api.Errno)) withOne {
	return func(a api.Span) (any, any, api.Errno) {
		x, e := f(a)
		return x, api.Rat(""), e
	}
}

func spanOf(f func(a, b api.Span) (api.Span, api.Errno)) withTwo {
	return func(a, b api.Span) (any, any, api.Errno) {
		c, e := f(a, b)
		return c, api.Span{}, e
	}
}

// Each function with spans checks them first, from left to right, and then its number; the result beside the error is zero.
func TestArguments(t *testing.T) {
	one := map[string]withOne{
		"Width": number(interval.Width), "Middle": number(interval.Middle),
		"Scale": func(a api.Span) (any, any, api.Errno) {
			b, e := interval.Scale(a, "x")
			return b, api.Span{}, e
		},
		"Contains": func(a api.Span) (any, any, api.Errno) {
			in, e := interval.Contains(a, digits("7", 1025))
			return in, false, e
		},
	}
	two := map[string]withTwo{
		"Add": spanOf(interval.Add), "Sub": spanOf(interval.Sub), "Hull": spanOf(interval.Hull),
		"Meet": func(a, b api.Span) (any, any, api.Errno) {
			c, ok, e := interval.Meet(a, b)
			if ok {
				t.Errorf("Meet(%.9s, %.9s) is true beside an error", a, b)
			}
			return c, api.Span{}, e
		},
		"Within": func(a, b api.Span) (any, any, api.Errno) {
			in, e := interval.Within(a, b)
			return in, false, e
		},
	}
	for _, x := range wrong {
		for name, f := range one {
			got, zero, e := f(x.a)
			expect(t, name, got, e, zero, x.e)
		}
		for name, f := range two {
			got, zero, e := f(x.a, span("0", "1"))
			expect(t, name, got, e, zero, x.e)
			got, zero, e = f(span("0", "1"), x.a)
			expect(t, name, got, e, zero, x.e)
			for _, y := range wrong {
				got, zero, e := f(x.a, y.a)
				expect(t, name, got, e, zero, x.e)
			}
		}
	}
	for _, x := range []struct {
		k api.Rat
		e api.Errno
	}{{"", api.ErrForm}, {"4/2", api.ErrForm}, {digits("7", 1025), api.ErrLarge}, {"1/" + digits("7", 1025), api.ErrLarge}} {
		a, e := interval.Scale(span("0", "0"), x.k)
		expect(t, "Scale", a, e, api.Span{}, x.e)
		in, e := interval.Contains(span("0", "1"), x.k)
		expect(t, "Contains", in, e, false, x.e)
	}
}

func TestCalculation(t *testing.T) {
	for _, a := range some() {
		low, high := value(a.Low), value(a.High)
		width, e := interval.Width(a)
		expect(t, "Width", width, e, text(new(big.Rat).Sub(high, low)), api.OK)
		middle, e := interval.Middle(a)
		mean := new(big.Rat).Add(low, high)
		expect(t, "Middle", middle, e, text(mean.Mul(mean, big.NewRat(1, 2))), api.OK)
		for _, k := range []api.Rat{"0", "1", "-1", "3/7", "-3/7", "-12"} {
			first, second := text(new(big.Rat).Mul(low, value(k))), text(new(big.Rat).Mul(high, value(k)))
			if k[0] == '-' {
				first, second = second, first
			}
			scaled, e := interval.Scale(a, k)
			expect(t, "Scale", scaled, e, span(first, second), api.OK)
		}
		for _, b := range some() {
			l, h := value(b.Low), value(b.High)
			sum, e := interval.Add(a, b)
			expect(t, "Add", sum, e, span(text(new(big.Rat).Add(low, l)), text(new(big.Rat).Add(high, h))), api.OK)
			difference, e := interval.Sub(a, b)
			expect(t, "Sub", difference, e, span(text(new(big.Rat).Sub(low, h)), text(new(big.Rat).Sub(high, l))), api.OK)
		}
	}
	// The first example.
	sum, e := interval.Add(span("1", "2"), span("-1/2", "3"))
	expect(t, "Add", sum, e, span("1/2", "5"), api.OK)
	difference, e := interval.Sub(span("1", "2"), span("-1/2", "3"))
	expect(t, "Sub", difference, e, span("-2", "5/2"), api.OK)
	scaled, e := interval.Scale(span("1", "2"), "-2")
	expect(t, "Scale", scaled, e, span("-4", "-2"), api.OK)
}

func TestLarge(t *testing.T) {
	most, long := digits("9", 1024), digits("7", 600)
	for _, a := range []api.Span{span("-"+most, most), span("-1", most), span("-1/"+long, "1/1"+long), span("1/1"+long, "1/"+long)} {
		width, e := interval.Width(a)
		expect(t, "Width", width, e, api.Rat(""), api.ErrLarge)
	}
	for _, a := range []api.Span{span("1", most), span(most, most), span("-1/"+long, "1/1"+long), span("1/5"+digits("0", 1023), "1/5"+digits("0", 1023))} {
		middle, e := interval.Middle(a)
		expect(t, "Middle", middle, e, api.Rat(""), api.ErrLarge)
	}
	for _, pair := range [][2]api.Span{{span("1", most), span("0", "1")}, {span("-"+most, "0"), span("-1", "0")}, {span("1/"+long, "1"), span("1/3"+long, "1")}} {
		for i := range pair {
			sum, e := interval.Add(pair[i], pair[1-i])
			expect(t, "Add", sum, e, api.Span{}, api.ErrLarge)
		}
		opposite, e := interval.Scale(pair[1], "-1")
		expect(t, "Scale", opposite.Low == "", e, false, api.OK)
		difference, e := interval.Sub(pair[0], opposite)
		expect(t, "Sub", difference, e, api.Span{}, api.ErrLarge)
	}
	for _, k := range []api.Rat{long, "-" + long} {
		for _, a := range []api.Span{span("0", long), span("-"+long, "0")} {
			scaled, e := interval.Scale(a, k)
			expect(t, "Scale", scaled, e, api.Span{}, api.ErrLarge)
		}
	}
	// Ends whose order cannot be told.
	low, high := span("0", "1/"+long), span("0", long)
	joined, e := interval.Hull(low, high)
	expect(t, "Hull", joined, e, api.Span{}, api.ErrLarge)
	both, ok, e := interval.Meet(low, high)
	expect(t, "Meet", both, e, api.Span{}, api.ErrLarge)
	expect(t, "Meet", ok, e, false, api.ErrLarge)
	in, e := interval.Within(low, high)
	expect(t, "Within", in, e, false, api.ErrLarge)
	in, e = interval.Contains(low, long)
	expect(t, "Contains", in, e, false, api.ErrLarge)
	both, ok, e = interval.Meet(span("1/"+long, "2"), span("0", "1/"+long))
	expect(t, "Meet", both, e, span("1/"+long, "1/"+long), api.OK)
	expect(t, "Meet", ok, e, true, api.OK)
}

// Numbers of a grid decide which numbers a span has.
func TestRelations(t *testing.T) {
	grid := []api.Rat{"-8", "-7", "-3", "-1", "-3/4", "-1/2", "-1/4", "0", "1/4", "1/3", "2/5", "1/2", "3/4", "1", "2", "7/2", "5", "10", "11"}
	within := func(a api.Span, x api.Rat) bool {
		return value(a.Low).Cmp(value(x)) <= 0 && value(x).Cmp(value(a.High)) <= 0
	}
	for _, a := range some() {
		for _, x := range grid {
			in, e := interval.Contains(a, x)
			expect(t, "Contains", in, e, within(a, x), api.OK)
		}
		for _, b := range some() {
			common, all := false, true
			for _, x := range grid {
				common = common || within(a, x) && within(b, x)
				all = all && (!within(a, x) || within(b, x))
			}
			in, e := interval.Within(a, b)
			expect(t, "Within", in, e, all, api.OK)
			both, ok, e := interval.Meet(a, b)
			expect(t, "Meet", ok, e, common, api.OK)
			joined, f := interval.Hull(a, b)
			for _, x := range grid {
				if ok && within(both, x) != (within(a, x) && within(b, x)) {
					t.Errorf("%v and %v meet in %v", a, b, both)
				}
				if (within(a, x) || within(b, x)) && !within(joined, x) {
					t.Errorf("hull %v of %v and %v", joined, a, b)
				}
			}
			if !ok && both != (api.Span{}) {
				t.Errorf("%v and %v meet in %v", a, b, both)
			}
			if (joined.Low != a.Low && joined.Low != b.Low) || (joined.High != a.High && joined.High != b.High) || f != api.OK {
				t.Errorf("hull %v of %v and %v, error %d", joined, a, b, f)
			}
		}
	}
}

// P3.3

func TestSpanLaws(t *testing.T) {
	ok := func(in bool, e api.Errno) bool { return in && e == api.OK }
	for _, a := range some() {
		for _, b := range some() {
			sum, _ := interval.Add(a, b)
			difference, _ := interval.Sub(a, b)
			for _, x := range []api.Rat{a.Low, a.High} {
				for _, y := range []api.Rat{b.Low, b.High} {
					plus, _ := ratio.Add(x, y)
					minus, _ := ratio.Sub(x, y)
					if !ok(interval.Contains(sum, plus)) || !ok(interval.Contains(difference, minus)) {
						t.Errorf("%s and %s of %v and %v", x, y, a, b)
					}
				}
			}
			greater := a.Low
			if order, _ := ratio.Compare(a.Low, b.Low); order < 0 {
				greater = b.Low
			}
			_, meet, e := interval.Meet(a, b)
			expect(t, "Meet", meet, e, ok(interval.Contains(a, greater)) && ok(interval.Contains(b, greater)), api.OK)
		}
	}
}
