package convolve_test

import (
	"fmt"
	"math"
	"slices"
	"strconv"
	"strings"
	"testing"

	"metrolab/api"
	"metrolab/convolve"
)

// expect compares results; nil and empty slices are printed alike.
func expect(t *testing.T, what string, got, want []any) {
	t.Helper()
	if g, w := fmt.Sprintf("%+v", got), fmt.Sprintf("%+v", want); g != w {
		t.Errorf("%.300s: %.2000s instead of %.2000s", what, g, w)
	}
}

func results(l ...any) []any { return l }

// list reads elements, such as "-2:7" for the value -2 with the weight 7.
func list(s string) []api.Weighted {
	var l []api.Weighted
	for _, word := range strings.Fields(s) {
		value, weight, _ := strings.Cut(word, ":")
		v, err := strconv.Atoi(value)
		if err != nil {
			panic(err)
		}
		l = append(l, api.Weighted{Value: v, Weight: api.Int(weight)})
	}
	return l
}

// lists reads distributions, with ";" between them.
func lists(s string) [][]api.Weighted {
	var l [][]api.Weighted
	for part := range strings.SplitSeq(s, ";") {
		l = append(l, list(part))
	}
	return l
}

func nines(n int) string { return strings.Repeat("9", n) }

func limits(low, high int) api.Limits { return api.Limits{Low: low, High: high} }

// row returns n elements with the weight 1, beginning with a value, with the same step between all of them.
func row(n, first, step int) []api.Weighted {
	var l []api.Weighted
	for i := range n {
		l = append(l, api.Weighted{Value: first + i*step, Weight: "1"})
	}
	return l
}

// a and b are the document's, and so is their sum.
const (
	a   = "1:1 2:2 4:1"
	b   = "0:1 3:1"
	sum = "1:1 2:2 4:2 5:2 7:1"
)

// lacking has lists that are no distributions, with their errors.
func lacking() map[api.Errno][][]api.Weighted {
	return map[api.Errno][][]api.Weighted{
		api.ErrEmpty: {nil, {}},
		api.ErrMany:  {row(4097, 0, 1), make([]api.Weighted, 4097)},
		api.ErrForm:  {list("0:"), list("0:01"), list("0:1 1:x"), list("0:-0"), make([]api.Weighted, 4096)},
		api.ErrLarge: {list("0:" + nines(1025)), list("0:1 1:-" + nines(1025))},
		api.ErrRange: {list("0:0"), list("0:-1"), list("1048577:1"), list("-1048577:1"), list("9223372036854775807:1"), list("-9223372036854775808:1")},
		api.ErrOrder: {list("1:1 1:1"), list("1:1 0:1"), list("0:1 2:1 1:1")},
	}
}

// P27.1 and P27.2: what is no distribution.
func TestLacking(t *testing.T) {
	good := list(a)
	for error, all := range lacking() {
		for _, bad := range all {
			what := fmt.Sprint("not ", bad)
			for _, x := range [][2][]api.Weighted{{bad, good}, {good, bad}, {bad, nil}, {bad, list("0:x")}} {
				l, e := convolve.Pair(x[0], x[1])
				expect(t, "Pair "+what, results(l, e), results(list(""), error))
			}
			for _, p := range []api.Rat{"1/2", "2", "", "1/02"} {
				x, e := convolve.Shortest(bad, p)
				expect(t, "Shortest "+what, results(x, e), results(api.Limits{}, error))
			}
			expectError(t, [][]api.Weighted{bad}, []int{1}, error)
			expectError(t, [][]api.Weighted{bad, nil}, nil, error)
			expectError(t, [][]api.Weighted{good, bad, list("0:x")}, []int{1, 5}, error)
		}
	}
}

// expectError compares the errors of all functions of a stack with one.
func expectError(t *testing.T, l [][]api.Weighted, signs []int, error api.Errno) {
	t.Helper()
	what := fmt.Sprint(signs, l)
	d, e := convolve.Stack(l, signs)
	worst, f := convolve.Worst(l, signs)
	mean, variance, g := convolve.Moments(l, signs)
	expect(t, "Stack, Worst and Moments "+what, results(d, e, worst, f, mean, variance, g), results(list(""), error, api.Limits{}, error, "", "", error))
	for _, x := range []api.Limits{limits(-9, 9), limits(9, -9), limits(math.MinInt, math.MaxInt)} {
		p, e := convolve.Yield(l, signs, x)
		expect(t, "Yield "+what, results(p, e), results("", error))
	}
	for _, value := range []int{0, 1, math.MinInt, math.MaxInt} {
		parts, e := convolve.Parts(l, signs, value)
		expect(t, "Parts "+what, results(parts, e), results([]int{}, error))
	}
}

// P27.1 and P27.2: the errors of a stack.
func TestErrors(t *testing.T) {
	for _, x := range []struct {
		l     [][]api.Weighted
		signs []int
		e     api.Errno
	}{
		{nil, nil, api.ErrEmpty}, {nil, []int{1}, api.ErrEmpty}, {nil, []int{0}, api.ErrEmpty}, {make([][]api.Weighted, 33), nil, api.ErrMany}, {slices.Repeat(lists(a), 33), slices.Repeat([]int{1}, 33), api.ErrMany}, {make([][]api.Weighted, 32), nil, api.ErrEmpty},
		{lists(a), nil, api.ErrShape}, {lists(a), []int{1, 1}, api.ErrShape}, {lists(a + ";" + b), []int{1}, api.ErrShape}, {lists(a + ";" + b), []int{0}, api.ErrShape}, {lists(a + ";" + b), []int{1, 1, 1}, api.ErrShape}, {lists(a + ";0:0"), []int{0}, api.ErrRange}, {lists(a + ";0:0"), []int{0, 0}, api.ErrRange},
		{lists(a), []int{0}, api.ErrArg}, {lists(a), []int{2}, api.ErrArg}, {lists(a), []int{-2}, api.ErrArg}, {lists(a + ";" + b), []int{1, 0}, api.ErrArg}, {lists(a + ";" + b), []int{math.MinInt, 1}, api.ErrArg}, {lists(a + ";" + b), []int{-1, math.MaxInt}, api.ErrArg},
	} {
		expectError(t, x.l, x.signs, x.e)
	}
}

// P27.1
func TestPair(t *testing.T) {
	half := "1" + strings.Repeat("0", 511)
	for _, x := range []struct {
		a, b, l []api.Weighted
		e       api.Errno
	}{
		{list(a), list(b), list(sum), api.OK}, {list(b), list(a), list(sum), api.OK}, {list(b), list(b), list("0:1 3:2 6:1"), api.OK}, {list("-3:1 0:1"), list(a), list("-2:1 -1:2 1:2 2:2 4:1"), api.OK}, {list("0:2 1:4"), list("5:6 6:10"), list("5:12 6:44 7:40"), api.OK}, {list("7:5"), list("-7:4"), list("0:20"), api.OK}, {list("-2:1 0:1 2:1"), list("-2:1 0:1 2:1"), list("-4:1 -2:2 0:3 2:2 4:1"), api.OK},
		{list("1048576:1"), list("0:3"), list("1048576:3"), api.OK}, {list("1048576:1"), list("1:1"), nil, api.ErrRange}, {list("-1048576:1"), list("-1:1"), nil, api.ErrRange}, {list("-1048576:1 1048576:1"), list("0:1 1:1"), nil, api.ErrRange}, {list("-1048576:1 1048576:1"), list("-1:1 0:1"), nil, api.ErrRange}, {list("-1048576:1 1048576:1"), list("0:4"), list("-1048576:4 1048576:4"), api.OK}, {list("1048576:2"), list("-1048576:3"), list("0:6"), api.OK}, {list("1048576:1"), list("1048576:1"), nil, api.ErrRange}, {list("500000:1 600000:1"), list("448576:1"), list("948576:1 1048576:1"), api.OK},
		{row(64, 0, 1), row(64, 0, 64), row(4096, 0, 1), api.OK}, {row(64, 0, 64), row(64, -32, 1), row(4096, -32, 1), api.OK}, {row(4096, 0, 2), list("9:1"), row(4096, 9, 2), api.OK}, {row(64, 0, 1), row(65, 0, 64), nil, api.ErrMany}, {row(4096, 0, 1), list("0:1 1:1"), nil, api.ErrMany}, {row(4096, 0, 2), row(4096, 0, 4), nil, api.ErrMany}, {row(4096, 0, 1), row(4096, 1048576-4095, 1), nil, api.ErrRange}, {row(2, 0, 1), row(2049, 0, 2), nil, api.ErrMany},
		// of several errors the first one; a weight that is too long is one product, or a sum of several
		{list("0:" + half), list("0:" + half), list("0:1" + strings.Repeat("0", 1022)), api.OK}, {list("0:" + half + "0"), list("0:" + half), list("0:1" + strings.Repeat("0", 1023)), api.OK}, {list("0:" + half + "0"), list("0:" + half + "0"), nil, api.ErrLarge}, {list("0:" + nines(1024)), list("0:1 1:1"), list("0:" + nines(1024) + " 1:" + nines(1024)), api.OK}, {list("0:" + nines(1024) + " 1:1"), list("0:1 1:1"), nil, api.ErrLarge}, {list("0:" + nines(1024)), list("0:2"), nil, api.ErrLarge}, {list("0:1 5:" + nines(1024)), list("0:1 5:2"), nil, api.ErrLarge},
		{list("0:5" + strings.Repeat("0", 1023) + " 1:4" + nines(1023)), list("0:1 1:1"), list("0:5" + strings.Repeat("0", 1023) + " 1:" + nines(1024) + " 2:4" + nines(1023)), api.OK}, {list("0:5" + strings.Repeat("0", 1023) + " 1:5" + strings.Repeat("0", 1023)), list("0:1 1:1"), nil, api.ErrLarge},
		{list("1048576:" + nines(1024)), list("1:2"), nil, api.ErrRange}, {append(list("-1:"+nines(1024)), row(4095, 0, 1)...), list("0:2 1:2"), nil, api.ErrMany},
	} {
		l, e := convolve.Pair(x.a, x.b)
		expect(t, fmt.Sprint("Pair ", x.a, x.b), results(l, e), results(x.l, x.e))
	}
	// as many sums as possible of two rows: their weights grow and fall by one
	l, e := convolve.Pair(row(1000, 0, 1), row(3097, 5, 1))
	expect(t, "rows", results(len(l), e), results(4096, api.OK))
	for i, x := range l {
		expect(t, "rows", results(x), results(api.Weighted{Value: 5 + i, Weight: api.Int(strconv.Itoa(min(i+1, 1000, 4096-i)))}))
	}
	l, e = convolve.Pair(row(1000, 0, 1), row(3098, 5, 1))
	expect(t, "rows", results(l, e), results(list(""), api.ErrMany))
}

// P27.1
func TestStack(t *testing.T) {
	hundred := slices.Repeat(lists("0:100"), 32)
	for _, x := range []struct {
		l     [][]api.Weighted
		signs []int
		d     []api.Weighted
		e     api.Errno
	}{
		{lists(a + ";" + b), []int{1, 1}, list(sum), api.OK}, {lists(b + ";" + a), []int{1, 1}, list(sum), api.OK}, {lists(a + ";" + b), []int{1, -1}, list("-2:1 -1:2 1:2 2:2 4:1"), api.OK}, {lists(a + ";" + b), []int{-1, 1}, list("-4:1 -2:2 -1:2 1:2 2:1"), api.OK}, {lists(a + ";" + b), []int{-1, -1}, list("-7:1 -5:2 -4:2 -2:2 -1:1"), api.OK},
		{lists(a), []int{1}, list(a), api.OK}, {lists(a), []int{-1}, list("-4:1 -2:2 -1:1"), api.OK}, {lists("0:6 1:9"), []int{1}, list("0:6 1:9"), api.OK}, {lists("0:1 1:1;0:1 1:1;0:1 1:1;0:1 1:1"), []int{1, -1, 1, 1}, list("-1:1 0:4 1:6 2:4 3:1"), api.OK}, {lists("5:3;6:2;7:4"), []int{1, -1, 1}, list("6:24"), api.OK}, {lists("1:1 2:1;1:1 2:1"), []int{1, -1}, list("-1:1 0:2 1:1"), api.OK},
		{hundred, slices.Repeat([]int{-1}, 32), list("0:1" + strings.Repeat("0", 64)), api.OK}, {slices.Repeat(lists("32768:1"), 32), slices.Repeat([]int{1}, 32), list("1048576:1"), api.OK},
		// each step counts, and the first one with an error
		{lists("1048576:1;1:1"), []int{1, 1}, nil, api.ErrRange}, {lists("1048576:1;1:1"), []int{-1, -1}, nil, api.ErrRange}, {lists("1048576:1;1:1"), []int{1, -1}, list("1048575:1"), api.OK}, {lists("1048576:1;1:1;1:1"), []int{1, 1, -1}, nil, api.ErrRange}, {lists("1048576:1;1:1;1:1"), []int{1, -1, 1}, list("1048576:1"), api.OK}, {lists("-1048576:1;1048576:1;1048576:1"), []int{1, 1, 1}, list("1048576:1"), api.OK}, {lists("-1048576:1;1048576:1;1048576:1"), []int{1, -1, 1}, nil, api.ErrRange},
		{[][]api.Weighted{row(4096, 0, 1), list("0:1 1:1"), list("1048576:1")}, []int{1, 1, 1}, nil, api.ErrMany}, {[][]api.Weighted{list("1048576:1"), row(4096, 0, 1), list("0:1 1:1")}, []int{1, 1, 1}, nil, api.ErrRange}, {lists("0:" + nines(600) + ";0:" + nines(600) + ";1048576:1;1048576:1"), []int{1, 1, 1, 1}, nil, api.ErrLarge}, {lists("1048576:" + nines(600) + ";0:1;1:" + nines(600)), []int{1, 1, 1}, nil, api.ErrRange}, {lists("0:" + nines(600) + ";0:" + nines(600)), []int{1, 1}, nil, api.ErrLarge},
		{[][]api.Weighted{row(64, 0, 1), row(64, 0, 64), list("3:1")}, []int{1, 1, -1}, row(4096, -3, 1), api.OK}, {[][]api.Weighted{row(64, 0, 1), row(64, 0, 64), list("3:1 4:1")}, []int{1, 1, -1}, nil, api.ErrMany},
	} {
		what := fmt.Sprint("Stack ", x.signs, x.l)
		d, e := convolve.Stack(x.l, x.signs)
		expect(t, what, results(d, e), results(x.d, x.e))
		if e != api.OK {
			p, e := convolve.Yield(x.l, x.signs, limits(-1, 1))
			order, f := convolve.Yield(x.l, x.signs, limits(1, -1))
			parts, g := convolve.Parts(x.l, x.signs, 0)
			expect(t, "Yield and Parts "+what, results(p, e, order, f, parts, g), results("", x.e, "", api.ErrOrder, []int{}, x.e))
		}
	}
}

// P27.1
func TestYield(t *testing.T) {
	both := lists(a + ";" + b)
	for _, x := range []struct {
		l     [][]api.Weighted
		signs []int
		x     api.Limits
		p     api.Rat
		e     api.Errno
	}{
		{both, []int{1, 1}, limits(2, 5), "3/4", api.OK}, {both, []int{1, 1}, limits(1, 7), "1", api.OK}, {both, []int{1, 1}, limits(3, 3), "0", api.OK}, {both, []int{1, 1}, limits(7, 7), "1/8", api.OK}, {both, []int{1, 1}, limits(8, 100), "0", api.OK}, {both, []int{1, 1}, limits(math.MinInt, 4), "5/8", api.OK}, {both, []int{1, 1}, limits(math.MinInt, math.MaxInt), "1", api.OK}, {both, []int{1, -1}, limits(-1, 0), "1/4", api.OK}, {both, []int{-1, 1}, limits(-4, -2), "3/8", api.OK}, {lists(a), []int{-1}, limits(-2, 0), "3/4", api.OK},
		{both, []int{1, 1}, limits(5, 2), "", api.ErrOrder}, {both, []int{1, 1}, limits(math.MaxInt, math.MinInt), "", api.ErrOrder}, {both, []int{1, 1}, limits(1, 0), "", api.ErrOrder}, {slices.Repeat(lists("0:1 1:1"), 32), slices.Repeat([]int{1}, 32), limits(0, 1), "33/4294967296", api.OK},
		{lists("0:1 1:" + nines(20) + ";0:" + nines(20) + " 1:1"), []int{1, 1}, limits(1, 1), "4999999999999999999900000000000000000001/5000000000000000000000000000000000000000", api.OK},
	} {
		p, e := convolve.Yield(x.l, x.signs, x.x)
		expect(t, fmt.Sprint("Yield ", x.signs, x.x, x.l), results(p, e), results(x.p, x.e))
	}
}

// P27.1: the ends need not be those of the steps.
func TestWorst(t *testing.T) {
	for _, x := range []struct {
		l     [][]api.Weighted
		signs []int
		worst api.Limits
		e     api.Errno
	}{
		{lists(a + ";" + b), []int{1, 1}, limits(1, 7), api.OK}, {lists(a + ";" + b), []int{1, -1}, limits(-2, 4), api.OK}, {lists(a + ";" + b), []int{-1, 1}, limits(-4, 2), api.OK}, {lists(a), []int{-1}, limits(-4, -1), api.OK}, {lists("-3:7"), []int{-1}, limits(3, 3), api.OK},
		{lists("1048576:1;1:1"), []int{1, 1}, api.Limits{}, api.ErrRange}, {lists("1048576:1;1:1"), []int{-1, -1}, api.Limits{}, api.ErrRange}, {lists("1048576:1;0:1 1:1"), []int{1, 1}, api.Limits{}, api.ErrRange}, {lists("-1048576:1;-1:1 5:1"), []int{1, 1}, api.Limits{}, api.ErrRange}, {lists("-1048576:1 1048576:1;0:1"), []int{-1, 1}, limits(-1048576, 1048576), api.OK}, {lists("1048576:1;1:1;1:1"), []int{1, 1, -1}, limits(1048576, 1048576), api.OK}, {slices.Repeat(lists("-1048576:1 1048576:1"), 32), slices.Repeat([]int{1}, 32), api.Limits{}, api.ErrRange},
		{[][]api.Weighted{row(4096, 0, 1), row(4096, 0, 256)}, []int{1, -1}, limits(-1048320, 4095), api.OK}, {lists("0:" + nines(1024) + ";1:" + nines(1024)), []int{1, 1}, limits(1, 1), api.OK},
	} {
		worst, e := convolve.Worst(x.l, x.signs)
		expect(t, fmt.Sprint("Worst ", x.signs, x.l), results(worst, e), results(x.worst, x.e))
	}
}
