package convolve_test

import (
	"fmt"
	"math"
	"slices"
	"testing"

	"metrolab/api"
	"metrolab/convolve"
)

// P27.2
func TestMoments(t *testing.T) {
	for _, x := range []struct {
		l              [][]api.Weighted
		signs          []int
		mean, variance api.Rat
	}{
		{lists(a + ";" + b), []int{1, 1}, "15/4", "55/16"}, {lists(a + ";" + b), []int{1, -1}, "3/4", "55/16"}, {lists(a + ";" + b), []int{-1, -1}, "-15/4", "55/16"}, {lists(a), []int{-1}, "-9/4", "19/16"}, {lists("7:3"), []int{1}, "7", "0"}, {lists("0:1 1:2;0:2 1:1"), []int{1, 1}, "1", "4/9"}, {lists("0:1 1:1;0:1 1:2"), []int{1, -1}, "-1/6", "17/36"},
		// no step is too long or out of its range here
		{lists("1048576:1;1048576:1"), []int{1, 1}, "2097152", "0"}, {slices.Repeat(lists("-1048576:1 1048576:1"), 32), slices.Repeat([]int{-1}, 32), "0", "35184372088832"}, {[][]api.Weighted{row(4096, 0, 1), row(4096, 0, 2)}, []int{1, 1}, "12285/2", "27962025/4"}, {lists("0:" + nines(1024) + ";1:" + nines(1024)), []int{1, 1}, "1", "0"},
	} {
		mean, variance, e := convolve.Moments(x.l, x.signs)
		expect(t, fmt.Sprint("Moments ", x.signs, x.l), results(mean, variance, e), results(x.mean, x.variance, api.OK))
	}
	mean, variance, e := convolve.Moments(lists("0:1 1:"+nines(1000)), []int{1})
	expect(t, "a variance that is too long", results(mean, variance, e), results("", "", api.ErrLarge))
}

// P27.2
func TestParts(t *testing.T) {
	both := lists(a + ";" + b)
	for _, x := range []struct {
		l     [][]api.Weighted
		signs []int
		value int
		parts []int
		e     api.Errno
	}{
		{both, []int{1, 1}, 4, []int{1, 3}, api.OK}, {both, []int{1, 1}, 2, []int{2, 0}, api.OK}, {both, []int{1, 1}, 7, []int{4, 3}, api.OK}, {both, []int{1, 1}, 1, []int{1, 0}, api.OK}, {both, []int{1, -1}, -2, []int{1, 3}, api.OK}, {both, []int{1, -1}, 1, []int{1, 0}, api.OK}, {both, []int{-1, 1}, -1, []int{1, 0}, api.OK}, {both, []int{-1, -1}, -4, []int{1, 3}, api.OK}, {lists(a), []int{-1}, -4, []int{4}, api.OK}, {lists(a), []int{1}, 4, []int{4}, api.OK},
		// the first choice, where a sign would turn the order round
		{lists("0:1 1:1 2:1;0:1 1:1 2:1"), []int{-1, 1}, 0, []int{0, 0}, api.OK}, {lists("0:1 1:1 2:1;0:1 1:1 2:1"), []int{1, 1}, 2, []int{0, 2}, api.OK}, {lists("0:1 1:1 2:1;0:1 1:1 2:1;0:1 1:1 2:1"), []int{-1, -1, -1}, -3, []int{0, 1, 2}, api.OK}, {lists("0:1 1:1 2:1;0:1 1:1 2:1;0:1 1:1 2:1"), []int{1, -1, 1}, -1, []int{0, 1, 0}, api.OK}, {lists("-5:1 3:1;-7:1 1:1"), []int{-1, 1}, -2, []int{-5, -7}, api.OK}, {lists("-5:1 3:1;-7:1 1:1"), []int{1, 1}, -4, []int{-5, 1}, api.OK},
		{lists("-1048576:1;1048576:1;1048576:1"), []int{1, 1, 1}, 1048576, []int{-1048576, 1048576, 1048576}, api.OK}, {[][]api.Weighted{row(64, 0, 1), row(64, 0, 64)}, []int{1, 1}, 4095, []int{63, 4032}, api.OK}, {[][]api.Weighted{row(64, 0, 1), row(64, 0, 64)}, []int{1, 1}, 64, []int{0, 64}, api.OK},
		{both, []int{1, 1}, 3, nil, api.ErrNone}, {both, []int{1, 1}, 0, nil, api.ErrNone}, {both, []int{1, 1}, 8, nil, api.ErrNone}, {both, []int{1, 1}, math.MaxInt, nil, api.ErrNone}, {both, []int{1, 1}, math.MinInt, nil, api.ErrNone}, {both, []int{-1, 1}, math.MinInt, nil, api.ErrNone}, {both, []int{1, -1}, 7, nil, api.ErrNone},
	} {
		parts, e := convolve.Parts(x.l, x.signs, x.value)
		expect(t, fmt.Sprint("Parts ", x.signs, x.value, x.l), results(parts, e), results(x.parts, x.e))
	}
}

// P27.2
func TestShortest(t *testing.T) {
	for _, x := range []struct {
		l []api.Weighted
		p api.Rat
		x api.Limits
		e api.Errno
	}{
		{list(sum), "1/2", limits(4, 5), api.OK}, {list(sum), "0", limits(1, 1), api.OK}, {list(sum), "1/8", limits(1, 1), api.OK}, {list(sum), "1/7", limits(2, 2), api.OK}, {list(sum), "1/4", limits(2, 2), api.OK}, {list(sum), "251/1000", limits(1, 2), api.OK}, {list(sum), "3/8", limits(1, 2), api.OK}, {list(sum), "3/4", limits(2, 5), api.OK}, {list(sum), "751/1000", limits(1, 5), api.OK}, {list(sum), "7/8", limits(1, 5), api.OK}, {list(sum), "8/9", limits(1, 7), api.OK}, {list(sum), "1", limits(1, 7), api.OK},
		{list("-5:3"), "0", limits(-5, -5), api.OK}, {list("-5:3"), "1", limits(-5, -5), api.OK}, {list("0:1 10:1 11:9"), "9/11", limits(11, 11), api.OK}, {list("0:1 10:1 11:9"), "10/11", limits(10, 11), api.OK}, {list("0:9 1:1 11:1"), "10/11", limits(0, 1), api.OK}, {list("0:9 1:1 2:9"), "1/2", limits(0, 1), api.OK}, {list("0:8 1:1 2:9"), "1/2", limits(2, 2), api.OK}, {list("0:7 1:1 2:9"), "9/17", limits(2, 2), api.OK}, {list("0:1 1:1 2:1 3:1 4:1"), "3/5", limits(0, 2), api.OK}, {list("0:1 1:1 2:1 3:1 4:1"), "61/100", limits(0, 3), api.OK},
		{row(4096, 0, 1), "1/2", limits(0, 2047), api.OK}, {row(4096, 0, 1), "1", limits(0, 4095), api.OK}, {append(row(4095, 0, 1), list("5000:4096")...), "1/2", limits(5000, 5000), api.OK}, {list("-1048576:1 1048576:1"), "501/1000", limits(-1048576, 1048576), api.OK},
		{list(sum), "-1/2", api.Limits{}, api.ErrRange}, {list(sum), "-1", api.Limits{}, api.ErrRange}, {list(sum), "9/8", api.Limits{}, api.ErrRange}, {list(sum), "2", api.Limits{}, api.ErrRange}, {list(sum), api.Rat(nines(1024)), api.Limits{}, api.ErrRange},
		{list(sum), "", api.Limits{}, api.ErrForm}, {list(sum), "2/4", api.Limits{}, api.ErrForm}, {list(sum), "1/0", api.Limits{}, api.ErrForm}, {list(sum), "0.5", api.Limits{}, api.ErrForm}, {list(sum), api.Rat("-1/" + nines(1025)), api.Limits{}, api.ErrLarge}, {list(sum), api.Rat(nines(1025)), api.Limits{}, api.ErrLarge},
		// long weights with a common factor are reduced; others may have a total that is too long
		{list("0:" + nines(1024) + " 3:" + nines(1024) + " 4:" + nines(1024)), "2/3", limits(3, 4), api.OK}, {list("0:" + nines(1024) + " 3:1 4:" + nines(1023)), "1/2", api.Limits{}, api.ErrLarge}, {list("0:1" + nines(1023) + " 3:1 4:" + nines(1023)), "1/2", limits(0, 0), api.OK},
	} {
		got, e := convolve.Shortest(x.l, x.p)
		expect(t, fmt.Sprintf("Shortest %.20s %v", x.p, x.l), results(got, e), results(x.x, x.e))
	}
}
