package ratio_test

import (
	"math"
	"math/big"
	"math/rand"
	"slices"
	"strings"
	"testing"

	"metrolab/api"
	"metrolab/ratio"
)

func digits(s string, n int) string { return strings.Repeat(s, n/len(s)+1)[:n] }

// wrong are texts with the errors that Check must return.
var wrong = []struct {
	a api.Rat
	e api.Errno
}{
	{"", api.ErrForm}, {"-", api.ErrForm}, {"/", api.ErrForm}, {"1/", api.ErrForm}, {"/2", api.ErrForm}, {"x", api.ErrForm}, {"05", api.ErrForm}, {"-0", api.ErrForm}, {"+1/2", api.ErrForm}, {"1/02", api.ErrForm},
	{"1/2/3", api.ErrForm}, {"1//2", api.ErrForm}, {"1 /2", api.ErrForm}, {"1/2 ", api.ErrForm}, {"0.5", api.ErrForm}, {"1/-0", api.ErrForm}, {"\xff/2", api.ErrForm},
	{"6/4", api.ErrForm}, {"5/1", api.ErrForm}, {"2/0", api.ErrForm}, {"1/-2", api.ErrForm}, {"0/3", api.ErrForm}, {"0/1", api.ErrForm}, {"0/0", api.ErrForm}, {"-3/3", api.ErrForm}, {"-10/15", api.ErrForm}, {"-1/-2", api.ErrForm}, {"1/-1", api.ErrForm},
	{api.Rat(digits("7", 1025)), api.ErrLarge}, {"-" + api.Rat(digits("7", 1025)), api.ErrLarge}, {"1/" + api.Rat(digits("7", 1025)), api.ErrLarge}, {api.Rat(digits("7", 1025)) + "/x", api.ErrForm}, {"x/" + api.Rat(digits("7", 1025)), api.ErrForm},
	{api.Rat(digits("7", 1025)) + "/7", api.ErrLarge}, {api.Rat(digits("7", 1025)) + "/0", api.ErrLarge}, {api.Rat(digits("7", 1025)) + "/1", api.ErrLarge}, {"1/-" + api.Rat(digits("7", 1025)), api.ErrLarge}, {"0/" + api.Rat(digits("7", 1025)), api.ErrLarge},
	{api.Rat(digits("4", 1024)) + "/2", api.ErrForm},
}

// right are numbers, in which each pair of parts has less than MaxLong digits together.
func right() []api.Rat {
	l := []api.Rat{"0", "1", "-1", "2", "-2", "10", "1/2", "-1/2", "2/3", "-3/2", "5/4", "-8/5", "11/4", "7/1000000000", "999999999/1000000000", "-1000000000/999999999", "1/999999999999999999", "-9",
		api.Rat(digits("9", 100)), "1/" + api.Rat(digits("9", 100)), "-" + api.Rat(digits("7", 60)) + "/8"}
	r := rand.New(rand.NewSource(2))
	for _, n := range []int{1, 1, 1, 2, 2, 3, 5, 9, 12, 18, 20, 40, 90, 150} {
		v := new(big.Rat).SetFrac(random(r, n), random(r, n))
		l = append(l, text(v), text(v.Neg(v)))
	}
	return l
}

// random returns a positive integer of n digits.
func random(r *rand.Rand, n int) *big.Int {
	least := new(big.Int).Exp(big.NewInt(10), big.NewInt(int64(n-1)), nil)
	return new(big.Int).Add(least, new(big.Int).Rand(r, new(big.Int).Mul(big.NewInt(9), least)))
}

func text(v *big.Rat) api.Rat { return api.Rat(v.RatString()) }

func value(a api.Rat) *big.Rat {
	v, ok := new(big.Rat).SetString(string(a))
	if !ok {
		panic("no number: " + a)
	}
	return v
}

func expect(t *testing.T, what string, got any, e api.Errno, wanted any, error api.Errno) {
	t.Helper()
	if got != wanted || e != error {
		t.Errorf("%s: %v, error %d instead of %v, error %d", what, got, e, wanted, error)
	}
}

// P2.1

func TestCheck(t *testing.T) {
	for _, x := range wrong {
		num, den, e := ratio.Parts(x.a)
		expect(t, "Check", ratio.Check(x.a), e, x.e, x.e)
		expect(t, "Parts", num+den, e, api.Int(""), x.e)
		sign, e := ratio.Sign(x.a)
		expect(t, "Sign", sign, e, 0, x.e)
		neg, e := ratio.Neg(x.a)
		expect(t, "Neg", neg, e, api.Rat(""), x.e)
		floor, e := ratio.Floor(x.a)
		expect(t, "Floor", floor, e, api.Int(""), x.e)
	}
	for _, a := range []api.Rat{api.Rat(digits("7", 1024)), "-" + api.Rat(digits("7", 1024)) + "/8", "-1/" + api.Rat(digits("7", 1024)), api.Rat(digits("7", 1024)) + "/1" + api.Rat(digits("0", 1023))} {
		if e := ratio.Check(a); e != api.OK {
			t.Errorf("Check(%s): %d", a, e)
		}
	}
}

func TestParts(t *testing.T) {
	for _, a := range right() {
		v := value(a)
		num, den, e := ratio.Parts(a)
		expect(t, "Parts", num+" "+den, e, api.Int(v.Num().String()+" "+v.Denom().String()), api.OK)
		expect(t, "Check", ratio.Check(a), e, api.OK, api.OK)
		sign, e := ratio.Sign(a)
		expect(t, "Sign", sign, e, v.Sign(), api.OK)
		neg, e := ratio.Neg(a)
		expect(t, "Neg", neg, e, text(new(big.Rat).Neg(v)), api.OK)
		floor, e := ratio.Floor(a)
		expect(t, "Floor", floor, e, api.Int(new(big.Int).Div(v.Num(), v.Denom()).String()), api.OK)
	}
	for _, x := range []struct {
		a     api.Rat
		floor api.Int
	}{{"-2/3", "-1"}, {"2/3", "0"}, {"-9", "-9"}, {"-8/5", "-2"}, {"11/4", "2"}, {"0", "0"}} {
		floor, e := ratio.Floor(x.a)
		expect(t, "Floor", floor, e, x.floor, api.OK)
	}
}

func TestMake(t *testing.T) {
	long := api.Int(digits("7", 1025))
	most := api.Int(digits("6", 1024))
	for _, x := range []struct {
		num, den api.Int
		a        api.Rat
		e        api.Errno
	}{
		{"10", "-15", "-2/3", api.OK}, {"0", "-3", "0", api.OK}, {"-21", "-7", "3", api.OK}, {"-1", "-2", "1/2", api.OK}, {"6", "1", "6", api.OK}, {"6", "-1", "-6", api.OK}, {"-6", "6", "-1", api.OK},
		{most, most, "1", api.OK}, {"-" + most, "3", "-" + api.Rat(digits("2", 1024)), api.OK}, {"-5", "-" + most, "5/" + api.Rat(most), api.OK},
		{"1", "0", "", api.ErrZero}, {"0", "0", "", api.ErrZero}, {"x", "0", "", api.ErrForm}, {long, "0", "", api.ErrLarge}, {"1", "01", "", api.ErrForm}, {"1", "-0", "", api.ErrForm}, {"1", "", "", api.ErrForm}, {"1", long, "", api.ErrLarge},
		{long, "x", "", api.ErrLarge}, {"x", long, "", api.ErrForm}, {"1/2", "3", "", api.ErrForm},
	} {
		a, e := ratio.Make(x.num, x.den)
		expect(t, "Make", a, e, x.a, x.e)
	}
	for _, x := range []struct {
		num, den int
		a        api.Rat
		e        api.Errno
	}{{-14, 6, "-7/3", api.OK}, {14, -6, "-7/3", api.OK}, {0, -6, "0", api.OK}, {5, 0, "", api.ErrZero}, {0, 0, "", api.ErrZero}, {math.MinInt64, -1, "9223372036854775808", api.OK}, {math.MinInt64, math.MinInt64, "1", api.OK}, {1, math.MinInt64, "-1/9223372036854775808", api.OK}, {math.MaxInt64, math.MinInt64, "-9223372036854775807/9223372036854775808", api.OK}} {
		a, e := ratio.Of(x.num, x.den)
		expect(t, "Of", a, e, x.a, x.e)
	}
	for n, a := range map[int]api.Rat{0: "0", 8: "8", -8: "-8", math.MinInt64: "-9223372036854775808", math.MaxInt64: "9223372036854775807"} {
		expect(t, "Whole", ratio.Whole(n), api.OK, a, api.OK)
	}
}

// P2.2

type operation func(a, b api.Rat) (api.Rat, api.Errno)

func TestOperations(t *testing.T) {
	for _, a := range right() {
		for _, b := range right() {
			v, w := value(a), value(b)
			order, e := ratio.Compare(a, b)
			expect(t, "Compare", order, e, v.Cmp(w), api.OK)
			sum, e := ratio.Add(a, b)
			expect(t, "Add", sum, e, text(new(big.Rat).Add(v, w)), api.OK)
			difference, e := ratio.Sub(a, b)
			expect(t, "Sub", difference, e, text(new(big.Rat).Sub(v, w)), api.OK)
			product, e := ratio.Mul(a, b)
			expect(t, "Mul", product, e, text(new(big.Rat).Mul(v, w)), api.OK)
			quotient, e := ratio.Div(a, b)
			if b == "0" {
				expect(t, "Div", quotient, e, api.Rat(""), api.ErrZero)
			} else {
				expect(t, "Div", quotient, e, text(new(big.Rat).Quo(v, w)), api.OK)
			}
		}
	}
	for _, x := range []struct {
		f       operation
		a, b, c api.Rat
	}{{ratio.Add, "1/14", "1/21", "5/42"}, {ratio.Sub, "1/14", "1/21", "1/42"}, {ratio.Mul, "3/5", "25/6", "5/2"}, {ratio.Div, "3/5", "-9/10", "-2/3"}} {
		c, e := x.f(x.a, x.b)
		expect(t, "example", c, e, x.c, api.OK)
	}
}

func TestOperationErrors(t *testing.T) {
	for _, x := range wrong {
		for i, f := range []operation{ratio.Add, ratio.Sub, ratio.Mul, ratio.Div} {
			for _, pair := range [][2]api.Rat{{x.a, "1/2"}, {"1/2", x.a}, {x.a, "0"}, {x.a, x.a}, {api.Rat(digits("9", 1024)), x.a}} {
				c, e := f(pair[0], pair[1])
				expect(t, "operation "+string(rune('0'+i)), c, e, api.Rat(""), x.e)
				order, e := ratio.Compare(pair[0], pair[1])
				expect(t, "Compare", order, e, 0, x.e)
			}
			for _, y := range wrong {
				c, e := f(x.a, y.a)
				expect(t, "first error", c, e, api.Rat(""), x.e)
			}
		}
	}
}

// A product or a sum on the way may be too long for a result that is not.
func TestLarge(t *testing.T) {
	long, most := api.Rat(digits("7", 600)), api.Rat(digits("9", 1024))
	other := api.Rat(digits("7", 599)) + "8"
	half := api.Rat("1" + digits("0", 511))
	for _, x := range []struct {
		a, b                      api.Rat
		add, sub, mul, div, order api.Errno
	}{
		{long, long, api.OK, api.OK, api.ErrLarge, api.OK, api.OK},
		{"1/" + long, "1/" + long, api.ErrLarge, api.ErrLarge, api.ErrLarge, api.OK, api.OK},
		{long, "1/" + long, api.ErrLarge, api.ErrLarge, api.OK, api.ErrLarge, api.ErrLarge},
		{long + "/" + other, other + "/" + long, api.ErrLarge, api.ErrLarge, api.ErrLarge, api.ErrLarge, api.ErrLarge},
		{most, "1", api.ErrLarge, api.OK, api.OK, api.OK, api.OK},
		{"-" + most, "1", api.OK, api.ErrLarge, api.OK, api.OK, api.OK},
		{most, "-" + most, api.OK, api.ErrLarge, api.ErrLarge, api.OK, api.OK},
		{most, "1/2", api.ErrLarge, api.ErrLarge, api.OK, api.ErrLarge, api.ErrLarge},
		{"1/" + most, "1/2", api.ErrLarge, api.ErrLarge, api.ErrLarge, api.OK, api.OK},
		{most, "0", api.OK, api.OK, api.OK, api.ErrZero, api.OK},
		{long + "/" + other, "0", api.OK, api.OK, api.OK, api.ErrZero, api.OK},
		{"0", long + "/" + other, api.OK, api.OK, api.OK, api.OK, api.OK},
		{half, half, api.OK, api.OK, api.OK, api.OK, api.OK},
		{half, "10" + half[1:], api.OK, api.OK, api.OK, api.OK, api.OK},
		{"10" + half[1:], "10" + half[1:], api.OK, api.OK, api.ErrLarge, api.OK, api.OK},
	} {
		for i, f := range []operation{ratio.Add, ratio.Sub, ratio.Mul, ratio.Div} {
			c, e := f(x.a, x.b)
			if wanted := []api.Errno{x.add, x.sub, x.mul, x.div}[i]; e != wanted || (c == "") != (e != api.OK) {
				t.Errorf("operation %d of %.9s and %.9s: %.9q, error %d instead of %d", i, x.a, x.b, c, e, wanted)
			}
		}
		if order, e := ratio.Compare(x.a, x.b); e != x.order || e != api.OK && order != 0 {
			t.Errorf("Compare(%.9s, %.9s): error %d instead of %d", x.a, x.b, e, x.order)
		}
	}
}

func TestSum(t *testing.T) {
	all := right()
	total := new(big.Rat)
	for i, a := range all[:40] {
		total.Add(total, value(a))
		sum, e := ratio.Sum(all[:i+1])
		expect(t, "Sum", sum, e, text(total), api.OK)
	}
	if !slices.Equal(all, right()) {
		t.Error("Sum changes its argument")
	}
	long, most := api.Rat(digits("7", 600)), api.Rat(digits("9", 1024))
	for _, x := range []struct {
		l []api.Rat
		a api.Rat
		e api.Errno
	}{
		{nil, "0", api.OK}, {[]api.Rat{}, "0", api.OK}, {[]api.Rat{"-2/3"}, "-2/3", api.OK}, {[]api.Rat{most}, most, api.OK}, {[]api.Rat{"1/4", "1/5", "11/20"}, "1", api.OK}, {[]api.Rat{"1/2", "-1/2"}, "0", api.OK},
		{slices.Repeat([]api.Rat{"1/8192"}, api.MaxEvents), "1/2", api.OK},
		{[]api.Rat{"1/2", "", most + "1"}, "", api.ErrForm}, {[]api.Rat{"1/2", most + "1", ""}, "", api.ErrLarge},
		// The order of the elements decides whether a sum on the way is too long; an element that is wrong comes first.
		{[]api.Rat{most, "-1", "1"}, most, api.OK}, {[]api.Rat{most, "1", "-1"}, "", api.ErrLarge}, {[]api.Rat{most, "1", "2/4"}, "", api.ErrForm}, {[]api.Rat{"1/" + long, "-1/" + long}, "", api.ErrLarge},
		{make([]api.Rat, api.MaxEvents), "", api.ErrForm}, {make([]api.Rat, api.MaxEvents+1), "", api.ErrMany}, {slices.Repeat([]api.Rat{"1"}, api.MaxEvents+1), "", api.ErrMany},
	} {
		a, e := ratio.Sum(x.l)
		expect(t, "Sum", a, e, x.a, x.e)
	}
}
