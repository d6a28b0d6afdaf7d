package allot_test

import (
	"fmt"
	"math"
	"slices"
	"testing"

	"metrolab/allot"
	"metrolab/api"
)

// expect compares results; nil and empty slices are printed alike.
func expect(t *testing.T, what string, got, want []any) {
	t.Helper()
	if g, w := fmt.Sprintf("%+v", got), fmt.Sprintf("%+v", want); g != w {
		t.Errorf("%.300s: %.2000s instead of %.2000s", what, g, w)
	}
}

func results(l ...any) []any { return l }

// part makes a part of its weight, and of a width and a cost for each choice.
func part(weight int, choices ...int) allot.Part {
	p := allot.Part{Weight: weight}
	for pair := range slices.Chunk(choices, 2) {
		p.Choices = append(p.Choices, allot.Choice{Width: pair[0], Cost: pair[1]})
	}
	return p
}

func task(most int, parts ...allot.Part) allot.Task { return allot.Task{Most: most, Parts: parts} }

// example is the document's.
func example(most int) allot.Task {
	return task(most, part(1, 30, 2, 20, 5, 10, 9), part(2, 20, 1, 10, 4))
}

// equal returns a task with n parts, each with choices as many as n, and the same width and cost in all of them.
func equal(most, n, weight, width, cost int) allot.Task {
	p := allot.Part{Weight: weight}
	for range n {
		p.Choices = append(p.Choices, allot.Choice{Width: width, Cost: cost})
	}
	return task(most, slices.Repeat([]allot.Part{p}, n)...)
}

// expectError compares the errors of all functions of a task with one.
func expectError(t *testing.T, x allot.Task, error api.Errno) {
	t.Helper()
	what := fmt.Sprint(x)
	expect(t, "Check "+what, results(allot.Check(x)), results(error))
	pick, cost, e := allot.Solve(x)
	front, f := allot.Front(x)
	expect(t, "Solve and Front "+what, results(pick, cost, e, front, f), results([]int{}, 0, error, [][2]int{}, error))
	for _, l := range [][]int{nil, {0}, {0, 0}, {-1, 5}, make([]int, 20)} {
		width, cost, e := allot.Value(x, l)
		bound, f := allot.Bound(x, l)
		expect(t, "Value and Bound "+what, results(width, cost, e, bound, f), results(0, 0, error, 0, error))
	}
	for _, more := range []int{0, 1, -1, math.MaxInt, math.MinInt} {
		worth, e := allot.Worth(x, more)
		expect(t, "Worth "+what, results(worth, e), results(0, error))
	}
}

// P28.1, and the same errors for the functions of P28.2.
func TestCheck(t *testing.T) {
	good := part(1, 3, 4)
	for _, x := range []struct {
		task allot.Task
		e    api.Errno
	}{
		{task(-1, good), api.ErrRange}, {task(1048577, good), api.ErrRange}, {task(math.MinInt, good), api.ErrRange}, {task(math.MaxInt, good), api.ErrRange}, {task(-1), api.ErrRange},
		{task(0), api.ErrEmpty}, {allot.Task{}, api.ErrEmpty}, {task(0, make([]allot.Part, 17)...), api.ErrMany}, {task(0, slices.Repeat([]allot.Part{good}, 17)...), api.ErrMany}, {task(-1, make([]allot.Part, 17)...), api.ErrRange}, {task(0, make([]allot.Part, 16)...), api.ErrRange},
		{task(9, part(0, 3, 4)), api.ErrRange}, {task(9, part(17, 3, 4)), api.ErrRange}, {task(9, part(-1, 3, 4)), api.ErrRange}, {task(9, part(math.MaxInt, 3, 4)), api.ErrRange}, {task(9, good, part(math.MinInt, 3, 4)), api.ErrRange}, {task(9, part(0)), api.ErrRange},
		{task(9, part(1)), api.ErrEmpty}, {task(9, part(16)), api.ErrEmpty}, {task(9, part(1, make([]int, 34)...)), api.ErrMany}, {task(9, part(17, make([]int, 34)...)), api.ErrRange},
		{task(9, part(1, -1, 0)), api.ErrRange}, {task(9, part(1, 100001, 0)), api.ErrRange}, {task(9, part(1, 0, -1)), api.ErrRange}, {task(9, part(1, 0, 1048577)), api.ErrRange}, {task(9, part(1, math.MinInt, 0)), api.ErrRange}, {task(9, part(1, math.MaxInt, 0)), api.ErrRange}, {task(9, part(1, 0, math.MaxInt)), api.ErrRange}, {task(9, part(1, 0, math.MinInt)), api.ErrRange}, {task(9, part(1, 1, 1, 2, 2, 3, -1)), api.ErrRange},
		// the first part with an error
		{task(9, good, part(1), part(0, 3, 4)), api.ErrEmpty}, {task(9, good, part(1, 5, -1), part(1)), api.ErrRange}, {task(9, good, part(1, make([]int, 34)...), part(1)), api.ErrMany}, {task(9, part(1, 5, 1, -1, 5), part(1)), api.ErrRange},
	} {
		expectError(t, x.task, x.e)
	}
	for _, x := range []allot.Task{task(0, good), task(1048576, good), example(50), equal(0, 16, 16, 100000, 1048576), equal(1048576, 16, 1, 0, 0), task(0, part(16, 100000, 0)), task(0, part(1, 0, 1048576))} {
		expect(t, fmt.Sprint("Check ", x), results(allot.Check(x)), results(api.OK))
	}
}

// P28.1
func TestValue(t *testing.T) {
	for _, x := range []struct {
		task        allot.Task
		pick        []int
		width, cost int
		e           api.Errno
	}{
		{example(50), []int{0, 1}, 50, 6, api.OK}, {example(0), []int{0, 0}, 70, 3, api.OK}, {example(0), []int{2, 1}, 30, 13, api.OK}, {example(0), []int{1, 0}, 60, 6, api.OK}, {task(0, part(3, 0, 0, 7, 5)), []int{1}, 21, 5, api.OK}, {equal(0, 16, 16, 100000, 1048576), make([]int, 16), 25600000, 16777216, api.OK},
		{example(50), nil, 0, 0, api.ErrShape}, {example(50), []int{0}, 0, 0, api.ErrShape}, {example(50), []int{0, 1, 0}, 0, 0, api.ErrShape}, {example(50), []int{3}, 0, 0, api.ErrShape}, {example(50), []int{0, 1, 9}, 0, 0, api.ErrShape},
		{example(50), []int{3, 0}, 0, 0, api.ErrRange}, {example(50), []int{0, 2}, 0, 0, api.ErrRange}, {example(50), []int{-1, 0}, 0, 0, api.ErrRange}, {example(50), []int{0, -1}, 0, 0, api.ErrRange}, {example(50), []int{math.MaxInt, math.MinInt}, 0, 0, api.ErrRange},
	} {
		width, cost, e := allot.Value(x.task, x.pick)
		expect(t, fmt.Sprint("Value ", x.task, x.pick), results(width, cost, e), results(x.width, x.cost, x.e))
	}
}

// P28.1
func TestBound(t *testing.T) {
	for _, x := range []struct {
		task  allot.Task
		begun []int
		bound int
		e     api.Errno
	}{
		{example(50), nil, 3, api.OK}, {example(40), nil, 9, api.OK}, {example(70), nil, 3, api.OK}, {example(49), nil, 9, api.OK}, {example(60), nil, 3, api.OK}, {example(39), nil, 13, api.OK}, {example(30), nil, 13, api.OK},
		{example(50), []int{0}, 6, api.OK}, {example(70), []int{0}, 3, api.OK}, {example(69), []int{0}, 6, api.OK}, {example(40), []int{1}, 9, api.OK}, {example(30), []int{2}, 13, api.OK}, {example(50), []int{2}, 10, api.OK},
		{example(50), []int{0, 1}, 6, api.OK}, {example(60), []int{1, 0}, 6, api.OK}, {example(30), []int{2, 1}, 13, api.OK},
		{example(29), nil, 0, api.ErrNone}, {example(0), nil, 0, api.ErrNone}, {example(49), []int{0}, 0, api.ErrNone}, {example(39), []int{1}, 0, api.ErrNone}, {example(49), []int{0, 1}, 0, api.ErrNone}, {example(59), []int{1, 0}, 0, api.ErrNone}, {example(29), []int{2, 1}, 0, api.ErrNone},
		{example(50), []int{0, 1, 0}, 0, api.ErrShape}, {example(0), []int{9, 9, 9}, 0, api.ErrShape}, {example(50), []int{3}, 0, api.ErrRange}, {example(50), []int{-1}, 0, api.ErrRange}, {example(0), []int{0, 2}, 0, api.ErrRange}, {example(50), []int{2, math.MinInt}, 0, api.ErrRange}, {example(0), []int{math.MaxInt}, 0, api.ErrRange},
		{equal(1048576, 16, 1, 65536, 1048576), nil, 16777216, api.OK}, {equal(1048575, 16, 1, 65536, 1048576), nil, 0, api.ErrNone}, {equal(1048576, 16, 16, 100000, 0), make([]int, 16), 0, api.ErrNone}, {task(0, part(2, 0, 1048576)), nil, 1048576, api.OK},
		// the least width need not be that of the last choice, nor the least cost that of the greatest width
		{task(10, part(1, 8, 2, 3, 9, 6, 1, 4, 7), part(2, 2, 3, 1, 5, 4, 0)), nil, 4, api.OK}, {task(7, part(1, 8, 2, 3, 9, 6, 1, 4, 7), part(2, 2, 3, 1, 5, 4, 0)), nil, 10, api.OK}, {task(12, part(1, 8, 2, 3, 9, 6, 1, 4, 7), part(2, 2, 3, 1, 5, 4, 0)), []int{2}, 4, api.OK},
	} {
		bound, e := allot.Bound(x.task, x.begun)
		expect(t, fmt.Sprint("Bound ", x.task, x.begun), results(bound, e), results(x.bound, x.e))
	}
}

// P28.2
func TestSolve(t *testing.T) {
	for _, x := range []struct {
		task allot.Task
		pick []int
		cost int
		e    api.Errno
	}{
		{example(50), []int{0, 1}, 6, api.OK}, {example(40), []int{1, 1}, 9, api.OK}, {example(29), nil, 0, api.ErrNone}, {example(30), []int{2, 1}, 13, api.OK}, {example(49), []int{1, 1}, 9, api.OK}, {example(69), []int{0, 1}, 6, api.OK}, {example(70), []int{0, 0}, 3, api.OK}, {example(1048576), []int{0, 0}, 3, api.OK}, {example(0), nil, 0, api.ErrNone},
		{task(0, part(16, 0, 7)), []int{0}, 7, api.OK}, {task(15, part(16, 1, 7)), nil, 0, api.ErrNone}, {task(16, part(16, 1, 7)), []int{0}, 7, api.OK},
		// the first one of several with the least cost, also if it is wider
		{task(9, part(1, 3, 2, 1, 2), part(1, 5, 4, 2, 4)), []int{0, 0}, 6, api.OK}, {task(7, part(1, 3, 2, 1, 2), part(1, 5, 4, 2, 4)), []int{0, 1}, 6, api.OK}, {task(3, part(1, 3, 2, 1, 2), part(1, 5, 4, 2, 4)), []int{1, 1}, 6, api.OK}, {task(6, part(1, 5, 3, 1, 5), part(1, 1, 5, 5, 3)), []int{0, 0}, 8, api.OK}, {task(6, part(1, 1, 5, 5, 3), part(1, 1, 5, 5, 3)), []int{0, 1}, 8, api.OK}, {task(6, part(1, 6, 9, 5, 3, 5, 3), part(1, 5, 3, 1, 5, 1, 5)), []int{1, 1}, 8, api.OK},
		{equal(1048576, 16, 1, 65536, 1048576), make([]int, 16), 16777216, api.OK}, {equal(1048575, 16, 1, 65536, 1048576), nil, 0, api.ErrNone}, {equal(1048576, 16, 16, 100000, 0), nil, 0, api.ErrNone},
	} {
		pick, cost, e := allot.Solve(x.task)
		expect(t, fmt.Sprint("Solve ", x.task), results(pick, cost, e), results(x.pick, x.cost, x.e))
	}
}

// binary returns parts with widths and costs that are powers of 2, so that the sum of a width and a cost is always the same.
func binary(n int) []allot.Part {
	var l []allot.Part
	for i := range n {
		l = append(l, part(1, 1<<i, 0, 0, 1<<i))
	}
	return l
}

// P28.2
func TestFront(t *testing.T) {
	for _, x := range []struct {
		task  allot.Task
		front [][2]int
	}{
		{example(50), [][2]int{{30, 13}, {40, 9}, {50, 6}, {70, 3}}}, {example(0), [][2]int{{30, 13}, {40, 9}, {50, 6}, {70, 3}}}, {task(0, part(3, 5, 5)), [][2]int{{15, 5}}}, {task(0, part(1, 5, 5, 5, 4, 6, 4, 4, 4)), [][2]int{{4, 4}}}, {task(0, part(1, 5, 4, 5, 5, 4, 6)), [][2]int{{4, 6}, {5, 4}}},
		{equal(0, 16, 16, 100000, 1048576), [][2]int{{25600000, 16777216}}}, {task(0, binary(2)...), [][2]int{{0, 3}, {1, 2}, {2, 1}, {3, 0}}}, {task(0, part(16, 0, 1048576, 100000, 0), part(16, 0, 1, 100000, 0)), [][2]int{{0, 1048577}, {1600000, 1}, {3200000, 0}}},
	} {
		front, e := allot.Front(x.task)
		expect(t, fmt.Sprint("Front ", x.task), results(front, e), results(x.front, api.OK))
	}
	var longest [][2]int
	for width := range api.MaxFound {
		longest = append(longest, [2]int{width, api.MaxFound - 1 - width})
	}
	front, e := allot.Front(task(0, binary(14)...))
	expect(t, "the longest front", results(front, e), results(longest, api.OK))
	for i, parts := range [][]allot.Part{append(binary(14), part(1, 1, 0, 0, 1)), append(binary(14), part(1, 100000, 0, 0, 100000)), binary(15), binary(16)} {
		front, e := allot.Front(task(0, parts...))
		expect(t, fmt.Sprint("too long ", i), results(front, e), results([][2]int{}, api.ErrLimit))
	}
}

// P28.2
func TestWorth(t *testing.T) {
	for _, x := range []struct {
		task        allot.Task
		more, worth int
		e           api.Errno
	}{
		{example(40), 10, 3, api.OK}, {example(40), 9, 0, api.OK}, {example(40), 0, 0, api.OK}, {example(30), 10, 4, api.OK}, {example(30), 1048546, 10, api.OK}, {example(49), 21, 6, api.OK}, {example(1048576), 0, 0, api.OK}, {example(1048575), 1, 0, api.OK},
		{example(40), -1, 0, api.ErrRange}, {example(40), 1048537, 0, api.ErrRange}, {example(1048576), 1, 0, api.ErrRange}, {example(40), math.MaxInt, 0, api.ErrRange}, {example(40), math.MinInt, 0, api.ErrRange}, {example(0), -1, 0, api.ErrRange}, {example(0), 1048577, 0, api.ErrRange},
		{example(29), 0, 0, api.ErrNone}, {example(29), 1, 0, api.ErrNone}, {example(0), 1048576, 0, api.ErrNone},
	} {
		worth, e := allot.Worth(x.task, x.more)
		expect(t, fmt.Sprint("Worth ", x.task, x.more), results(worth, e), results(x.worth, x.e))
	}
}
