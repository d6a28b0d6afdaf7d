package dist_test

import (
	"fmt"
	"math"
	"strconv"
	"strings"
	"testing"

	"metrolab/api"
	"metrolab/dist"
)

// expect compares results; nil and empty slices are printed alike.
func expect(t *testing.T, what string, got, want []any) {
	t.Helper()
	if g, w := fmt.Sprintf("%+v", got), fmt.Sprintf("%+v", want); g != w {
		t.Errorf("%s: %.2000s instead of %.2000s", what, g, w)
	}
}

func results(l ...any) []any { return l }

// short returns the beginning of a printed value.
func short(x any) string {
	s := fmt.Sprint(x)
	return s[:min(200, len(s))]
}

// list reads elements, such as "-2:7" for the value -2 with the weight 7.
func list(s string) []api.Weighted {
	var l []api.Weighted
	for _, word := range strings.Fields(s) {
		value, weight, _ := strings.Cut(word, ":")
		v, err := strconv.Atoi(value)
		if err != nil {
			panic(err)
		}
		l = append(l, api.Weighted{Value: v, Weight: api.Int(weight)})
	}
	return l
}

func nines(n int) string { return strings.Repeat("9", n) }

// example is the document's.
func example() []api.Weighted { return list("1:1 2:2 4:1") }

func limits(low, high int) api.Limits { return api.Limits{Low: low, High: high} }

// expectError compares the errors of all functions of a distribution with one.
func expectError(t *testing.T, l []api.Weighted, error api.Errno) {
	t.Helper()
	what := short(l)
	expect(t, "Check "+what, results(dist.Check(l)), results(error))
	total, e := dist.Total(l)
	mean, f := dist.Mean(l)
	variance, g := dist.Variance(l)
	expect(t, "Total, Mean and Variance "+what, results(total, e, mean, f, variance, g), results("", error, "", error, "", error))
	for _, x := range []api.Limits{limits(-9, 9), limits(9, -9)} {
		p, e := dist.Probability(l, x)
		expect(t, "Probability "+what, results(p, e), results("", error))
	}
	for _, p := range []api.Rat{"1/2", "2", "", "1/02", api.Rat(nines(1025))} {
		q, e := dist.Quantile(l, p)
		expect(t, "Quantile "+what, results(q, e), results(0, error))
	}
	for _, k := range []int{1, 0, math.MaxInt} {
		scaled, e := dist.Scale(l, k, 0)
		expect(t, "Scale "+what, results(scaled, e), results(list(""), error))
	}
	reduced, e := dist.Reduce(l)
	expect(t, "Reduce "+what, results(reduced, e), results(list(""), error))
}

// row returns n elements with the weight 1, from the value 0 on.
func row(n int) []api.Weighted {
	var l []api.Weighted
	for i := range n {
		l = append(l, api.Weighted{Value: i, Weight: "1"})
	}
	return l
}

// P26.1, and the same errors for Scale and Reduce of P26.2.
func TestCheck(t *testing.T) {
	long := nines(1025)
	for _, x := range []struct {
		l []api.Weighted
		e api.Errno
	}{
		{nil, api.ErrEmpty}, {row(4097), api.ErrMany}, {make([]api.Weighted, 4097), api.ErrMany}, {make([]api.Weighted, 4096), api.ErrForm},
		{list("0:"), api.ErrForm}, {list("0:-"), api.ErrForm}, {list("0:01"), api.ErrForm}, {list("0:+1"), api.ErrForm}, {list("0:-0"), api.ErrForm}, {list("0:1/2"), api.ErrForm}, {list("0:x" + long), api.ErrForm}, {list("0:" + long), api.ErrLarge}, {list("0:-" + long), api.ErrLarge},
		{list("0:0"), api.ErrRange}, {list("0:-1"), api.ErrRange}, {list("0:-" + nines(1024)), api.ErrRange}, {list("1048577:1"), api.ErrRange}, {list("-1048577:1"), api.ErrRange}, {list("9223372036854775807:1"), api.ErrRange}, {list("-9223372036854775808:1"), api.ErrRange},
		{list("1:1 1:1"), api.ErrOrder}, {list("1:1 0:1"), api.ErrOrder}, {list("1:1 2:1 2:1"), api.ErrOrder}, {list("1:1 3:1 2:1"), api.ErrOrder}, {list("0:1 -1:1"), api.ErrOrder},
		// the first element with an error, and its first one
		{list("1048577:"), api.ErrForm}, {list("1048577:" + long), api.ErrLarge}, {list("1:1 0:x"), api.ErrForm}, {list("1:1 0:0"), api.ErrRange}, {list("1:1 -1048577:1"), api.ErrRange}, {list("1:1 0:1 2:x"), api.ErrOrder}, {list("1:1 2:0 1:x"), api.ErrRange}, {list("1:1 2:x 3:0"), api.ErrForm}, {list("2:0 1:1"), api.ErrRange},
	} {
		expectError(t, x.l, x.e)
	}
	for _, l := range [][]api.Weighted{example(), row(4096), list("-1048576:1 1048576:1"), list("0:" + nines(1024)), list("-3:2 -2:1 -1:7 0:5 1:99999999999999999999")} {
		expect(t, "Check "+short(l), results(dist.Check(l)), results(api.OK))
	}
}

// P26.1
func TestMoments(t *testing.T) {
	for _, x := range []struct {
		l              []api.Weighted
		total          api.Int
		mean, variance api.Rat
	}{
		{example(), "4", "9/4", "19/16"}, {list("-5:7"), "7", "-5", "0"}, {list("0:3"), "3", "0", "0"}, {list("0:1 1:1"), "2", "1/2", "1/4"}, {list("-1:1 1:1"), "2", "0", "1"}, {list("-4:1 -2:2 -1:1"), "4", "-9/4", "19/16"},
		{list("-1048576:1 1048576:1"), "2", "0", "1099511627776"}, {list("-1048576:1 1048576:3"), "4", "524288", "824633720832"}, {list("1048575:1 1048576:1"), "2", "2097151/2", "1/4"}, {list("0:2 1:4 2:2"), "8", "1", "1/2"},
		{list("3:" + nines(1024)), api.Int(nines(1024)), "3", "0"}, {list("0:99999999999999999999 1:1"), "100000000000000000000", "1/100000000000000000000", "99999999999999999999/10000000000000000000000000000000000000000"},
	} {
		total, e := dist.Total(x.l)
		mean, f := dist.Mean(x.l)
		variance, g := dist.Variance(x.l)
		expect(t, short(x.l), results(total, e, mean, f, variance, g), results(x.total, api.OK, x.mean, api.OK, x.variance, api.OK))
	}
}

// P26.1: weights that are too long together. With a common divisor there is still a mean, a variance and so on.
func TestLarge(t *testing.T) {
	half := "5" + strings.Repeat("0", 1023)
	l := list("0:" + half + " 1:" + half)
	total, e := dist.Total(l)
	mean, f := dist.Mean(l)
	variance, g := dist.Variance(l)
	p, h := dist.Probability(l, limits(1, 1))
	q, i := dist.Quantile(l, "2/3")
	expect(t, "halves", results(total, e, mean, f, variance, g, p, h, q, i), results("", api.ErrLarge, "1/2", api.OK, "1/4", api.OK, "1/2", api.OK, 1, api.OK))
	l = list("0:" + half + " 1:" + half[:1023] + "1")
	total, e = dist.Total(l)
	mean, f = dist.Mean(l)
	variance, g = dist.Variance(l)
	p, h = dist.Probability(l, limits(1, 1))
	q, i = dist.Quantile(l, "2/3")
	expect(t, "nearly halves", results(total, e, mean, f, variance, g, p, h, q, i), results("", api.ErrLarge, "", api.ErrLarge, "", api.ErrLarge, "", api.ErrLarge, 0, api.ErrLarge))
	l = list("0:1 1:" + nines(1024)[1:] + "8")
	total, e = dist.Total(l)
	p, h = dist.Probability(l, limits(0, 0))
	expect(t, "as long as possible", results(total, e, p, h), results(nines(1024), api.OK, "1/"+nines(1024), api.OK))
}

// P26.1
func TestProbability(t *testing.T) {
	for _, x := range []struct {
		l []api.Weighted
		x api.Limits
		p api.Rat
		e api.Errno
	}{
		{example(), limits(2, 3), "1/2", api.OK}, {example(), limits(3, 3), "0", api.OK}, {example(), limits(1, 1), "1/4", api.OK}, {example(), limits(4, 4), "1/4", api.OK}, {example(), limits(1, 2), "3/4", api.OK}, {example(), limits(2, 4), "3/4", api.OK}, {example(), limits(1, 4), "1", api.OK}, {example(), limits(-7, 0), "0", api.OK}, {example(), limits(5, 7), "0", api.OK},
		{example(), limits(math.MinInt, math.MaxInt), "1", api.OK}, {example(), limits(math.MinInt, 1), "1/4", api.OK}, {example(), limits(2, math.MaxInt), "3/4", api.OK}, {example(), limits(-1048577, 1048577), "1", api.OK}, {list("-1048576:1 1048576:2"), limits(200000, 1048576), "2/3", api.OK},
		{example(), limits(2, 1), "", api.ErrOrder}, {example(), limits(4, 1), "", api.ErrOrder}, {example(), limits(math.MaxInt, math.MinInt), "", api.ErrOrder}, {example(), limits(10, 9), "", api.ErrOrder},
	} {
		p, e := dist.Probability(x.l, x.x)
		expect(t, fmt.Sprint("Probability ", x.l, x.x), results(p, e), results(x.p, x.e))
	}
}

// P26.1
func TestQuantile(t *testing.T) {
	long := api.Rat(nines(1025))
	for _, x := range []struct {
		l []api.Weighted
		p api.Rat
		q int
		e api.Errno
	}{
		{example(), "0", 1, api.OK}, {example(), "1/9", 1, api.OK}, {example(), "1/4", 1, api.OK}, {example(), "1/3", 2, api.OK}, {example(), "1/2", 2, api.OK}, {example(), "3/4", 2, api.OK}, {example(), "4/5", 4, api.OK}, {example(), "1", 4, api.OK},
		{list("-5:7"), "0", -5, api.OK}, {list("-5:7"), "1/2", -5, api.OK}, {list("-5:7"), "1", -5, api.OK}, {list("-5:3 -1:3 6:3"), "1/3", -5, api.OK}, {list("-5:3 -1:3 6:3"), "2/3", -1, api.OK}, {list("-5:3 -1:3 6:3"), "67/100", 6, api.OK}, {list("-5:3 -1:3 6:3"), "333/1000", -5, api.OK}, {list("-5:3 -1:3 6:3"), "167/500", -1, api.OK}, {list("-5:3 -1:3 6:3"), "334/1000", 0, api.ErrForm},
		{example(), "-1", 0, api.ErrRange}, {example(), "-1/100", 0, api.ErrRange}, {example(), "2", 0, api.ErrRange}, {example(), "101/100", 0, api.ErrRange}, {example(), api.Rat(nines(1024)), 0, api.ErrRange},
		{example(), "", 0, api.ErrForm}, {example(), "2/2", 0, api.ErrForm}, {example(), "-1/-2", 0, api.ErrForm}, {example(), "1/0", 0, api.ErrForm}, {example(), "0.5", 0, api.ErrForm}, {example(), long, 0, api.ErrLarge}, {example(), "-" + long, 0, api.ErrLarge}, {example(), "1/" + long, 0, api.ErrLarge},
	} {
		q, e := dist.Quantile(x.l, x.p)
		expect(t, fmt.Sprintf("Quantile %v %.30s", x.l, x.p), results(q, e), results(x.q, x.e))
	}
}
