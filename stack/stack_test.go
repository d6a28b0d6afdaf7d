package stack_test

import (
	"fmt"
	"math"
	"slices"
	"strconv"
	"strings"
	"testing"

	"metrolab/api"
	"metrolab/loop"
	"metrolab/stack"
)

// expect compares results; nil and empty slices are printed alike.
func expect(t *testing.T, what string, got, want []any) {
	t.Helper()
	if g, w := fmt.Sprintf("%+v", got), fmt.Sprintf("%+v", want); g != w {
		t.Errorf("%s: %.2000s instead of %.2000s", what, g, w)
	}
}

func results(l ...any) []any { return l }

func limits(low, high int) api.Limits { return api.Limits{Low: low, High: high} }

func dim(from, to string, axis, low, high int) api.Dimension {
	return api.Dimension{From: from, To: to, Axis: axis, Limits: limits(low, high)}
}

// links reads links, such as "3" or, backwards, "-3".
func links(s string) []loop.Link {
	var c []loop.Link
	for _, word := range strings.Fields(s) {
		digits, back := strings.CutPrefix(word, "-")
		i, _ := strconv.Atoi(digits)
		c = append(c, loop.Link{Dim: i, Back: back})
	}
	return c
}

// example is the document's.
func example() stack.Task {
	return stack.Task{
		Dimensions: []api.Dimension{dim("A", "B", 0, 10, 12), dim("C", "B", 0, 3, 4), dim("C", "D", 0, 5, 9)},
		Chain:      links("0 -1 2"),
		Want:       limits(10, 16),
	}
}

// beside has dimensions that are not in its chain, on both sides of it and along other axes.
func beside() stack.Task {
	return stack.Task{
		Dimensions: []api.Dimension{dim("A", "B", 1, 7, 9), dim("B", "A", 0, -4, -1), dim("A", "C", 0, 20, 30), dim("B", "C", 0, 100, 105), dim("B", "C", 2, -8, 8)},
		Chain:      links("-3 1"),
		Want:       limits(-110, -100),
	}
}

func with(t stack.Task, chain string, want api.Limits) stack.Task {
	t.Chain, t.Want = links(chain), want
	return t
}

// expectError compares the errors of all functions of a task with one.
func expectError(t *testing.T, task stack.Task, error api.Errno) {
	t.Helper()
	what := fmt.Sprintf("%.300s", fmt.Sprint(task))
	expect(t, "Check "+what, results(stack.Check(task)), results(error))
	all, e := stack.Limits(task)
	expect(t, "Limits "+what, results(all, e), results(api.Limits{}, error))
	for _, greatest := range []bool{false, true} {
		part, e := stack.Attain(task, greatest)
		expect(t, "Attain "+what, results(part, e), results([]int{}, error))
	}
	shares, e := stack.Shares(task)
	expect(t, "Shares "+what, results(shares, e), results([]int{}, error))
	keeps, part, e := stack.Keeps(task)
	expect(t, "Keeps "+what, results(keeps, part, e), results(false, []int{}, error))
	low, high, e := stack.Spare(task)
	expect(t, "Spare "+what, results(low, high, e), results(0, 0, error))
	for _, n := range []int{0, 1, -1, 1 << 40, math.MinInt, math.MaxInt} {
		part, e := stack.Part(task, n)
		expect(t, "Part "+what, results(part, e), results([]int{}, error))
		room, e := stack.Room(task, n)
		expect(t, "Room "+what, results(room, e), results(api.Limits{}, error))
	}
}

// P25.1 and P25.2: the errors of Check come first, in their order.
func TestErrors(t *testing.T) {
	l := beside().Dimensions
	bad := []api.Dimension{l[0], dim("A", "A", 9, 2, 1)}
	for _, x := range []struct {
		task stack.Task
		e    api.Errno
	}{
		{stack.Task{}, api.ErrEmpty}, {stack.Task{Dimensions: l}, api.ErrEmpty}, {stack.Task{Dimensions: l, Want: limits(2, 1)}, api.ErrEmpty}, {stack.Task{Dimensions: make([]api.Dimension, 257)}, api.ErrMany}, {stack.Task{Dimensions: make([]api.Dimension, 256)}, api.ErrForm},
		{stack.Task{Dimensions: bad, Chain: links("0"), Want: limits(2, 1)}, api.ErrTwice}, {stack.Task{Dimensions: bad, Chain: links("5")}, api.ErrTwice}, {stack.Task{Dimensions: []api.Dimension{dim("A", "B", 0, 2, 1)}, Chain: links("0")}, api.ErrOrder},
		{with(beside(), "5", limits(0, 0)), api.ErrRange}, {with(beside(), "5", limits(2, 1)), api.ErrRange}, {with(beside(), "0 3", limits(2, 1)), api.ErrShape}, {with(beside(), "2 2", limits(2, 1)), api.ErrShape}, {with(beside(), "2 -2", limits(2, 1)), api.ErrTwice},
		{stack.Task{Dimensions: l, Chain: []loop.Link{{Dim: -1}}}, api.ErrRange}, {stack.Task{Dimensions: l, Chain: []loop.Link{{Dim: math.MaxInt, Back: true}}}, api.ErrRange}, {stack.Task{Dimensions: l, Chain: make([]loop.Link, 257)}, api.ErrMany},
		{with(beside(), "3", limits(2, 1)), api.ErrOrder}, {with(beside(), "3", limits(100001, 1)), api.ErrRange}, {with(beside(), "3", limits(0, 100001)), api.ErrRange}, {with(beside(), "3", limits(-100001, 0)), api.ErrRange}, {with(beside(), "3", limits(math.MinInt, math.MaxInt)), api.ErrRange},
	} {
		expectError(t, x.task, x.e)
	}
	for _, task := range []stack.Task{example(), beside(), with(beside(), "3", limits(-100000, 100000)), with(beside(), "3", limits(-100000, -100000)), with(beside(), "1 2 -3", limits(0, 0))} {
		expect(t, fmt.Sprint("Check ", task), results(stack.Check(task)), results(api.OK))
	}
}

// P25.1
func TestEnds(t *testing.T) {
	for _, x := range []struct {
		task            stack.Task
		all             api.Limits
		least, greatest []int
	}{
		{example(), limits(11, 18), []int{10, 4, 5}, []int{12, 3, 9}},
		{with(example(), "-2 1 -0", limits(0, 0)), limits(-18, -11), []int{12, 3, 9}, []int{10, 4, 5}},
		{with(example(), "1", limits(0, 0)), limits(3, 4), []int{10, 3, 5}, []int{10, 4, 5}},
		{with(example(), "-1", limits(0, 0)), limits(-4, -3), []int{10, 4, 5}, []int{10, 3, 5}},
		{beside(), limits(-109, -101), []int{7, -4, 20, 105, -8}, []int{7, -1, 20, 100, -8}},
		{with(beside(), "3 -2 -1", limits(0, 0)), limits(71, 89), []int{7, -1, 30, 100, -8}, []int{7, -4, 20, 105, -8}},
		{with(beside(), "4", limits(0, 0)), limits(-8, 8), []int{7, -4, 20, 100, -8}, []int{7, -4, 20, 100, 8}},
		{stack.Task{Dimensions: []api.Dimension{dim("A", "B", 0, 6, 6)}, Chain: links("-0")}, limits(-6, -6), []int{6}, []int{6}},
	} {
		what := fmt.Sprint(x.task)
		all, e := stack.Limits(x.task)
		expect(t, "Limits "+what, results(all, e), results(x.all, api.OK))
		part, e := stack.Attain(x.task, false)
		expect(t, "least "+what, results(part, e), results(x.least, api.OK))
		part, e = stack.Attain(x.task, true)
		expect(t, "greatest "+what, results(part, e), results(x.greatest, api.OK))
	}
}

// P25.1
func TestPart(t *testing.T) {
	for _, x := range []struct {
		task stack.Task
		sum  int
		part []int
		e    api.Errno
	}{
		{example(), 11, []int{10, 4, 5}, api.OK}, {example(), 12, []int{11, 4, 5}, api.OK}, {example(), 13, []int{12, 4, 5}, api.OK}, {example(), 14, []int{12, 3, 5}, api.OK}, {example(), 15, []int{12, 3, 6}, api.OK}, {example(), 18, []int{12, 3, 9}, api.OK},
		{beside(), -109, []int{7, -4, 20, 105, -8}, api.OK}, {beside(), -105, []int{7, -4, 20, 101, -8}, api.OK}, {beside(), -103, []int{7, -3, 20, 100, -8}, api.OK}, {beside(), -101, []int{7, -1, 20, 100, -8}, api.OK},
		{with(beside(), "2 -3 1", limits(0, 0)), -80, []int{7, -4, 29, 105, -8}, api.OK}, {with(beside(), "2 -3 1", limits(0, 0)), -77, []int{7, -4, 30, 103, -8}, api.OK}, {with(beside(), "2 -3 1", limits(0, 0)), -72, []int{7, -2, 30, 100, -8}, api.OK},
		{example(), 10, nil, api.ErrRange}, {example(), 19, nil, api.ErrRange}, {example(), math.MinInt, nil, api.ErrRange}, {example(), math.MaxInt, nil, api.ErrRange}, {beside(), -110, nil, api.ErrRange}, {beside(), -100, nil, api.ErrRange}, {beside(), 0, nil, api.ErrRange},
	} {
		part, e := stack.Part(x.task, x.sum)
		expect(t, fmt.Sprint("Part ", x.sum, " ", x.task), results(part, e), results(x.part, x.e))
	}
}

// P25.2
func TestShares(t *testing.T) {
	for _, x := range []struct {
		task   stack.Task
		shares []int
	}{{example(), []int{2, 1, 4}}, {with(example(), "-2 1 -0", limits(0, 0)), []int{4, 1, 2}}, {beside(), []int{5, 3}}, {with(beside(), "-4", limits(0, 0)), []int{16}}, {with(beside(), "1 2 -3", limits(0, 0)), []int{3, 10, 5}}} {
		shares, e := stack.Shares(x.task)
		expect(t, fmt.Sprint("Shares ", x.task), results(shares, e), results(x.shares, api.OK))
	}
}

// P25.2
func TestKeeps(t *testing.T) {
	least, greatest := []int{10, 4, 5}, []int{12, 3, 9}
	for _, x := range []struct {
		want      api.Limits
		part      []int
		low, high int
	}{
		{limits(10, 16), greatest, 1, -2}, {limits(11, 18), nil, 0, 0}, {limits(12, 18), least, -1, 0}, {limits(11, 17), greatest, 0, -1}, {limits(12, 17), least, -1, -1}, {limits(14, 14), least, -3, -4}, {limits(-100000, 100000), nil, 100011, 99982},
		{limits(-5, 5), least, 16, -13}, {limits(18, 30), least, -7, 12}, {limits(19, 30), least, -8, 12}, {limits(100000, 100000), least, -99989, 99982}, {limits(-100000, -100000), least, 100011, -100018},
	} {
		task := with(example(), "0 -1 2", x.want)
		keeps, part, e := stack.Keeps(task)
		expect(t, fmt.Sprint("Keeps ", x.want), results(keeps, part, e), results(len(x.part) == 0, x.part, api.OK))
		low, high, e := stack.Spare(task)
		expect(t, fmt.Sprint("Spare ", x.want), results(low, high, e), results(x.low, x.high, api.OK))
		back := with(example(), "-2 1 -0", limits(-x.want.High, -x.want.Low))
		low, high, e = stack.Spare(back)
		expect(t, fmt.Sprint("Spare back ", x.want), results(low, high, e), results(x.high, x.low, api.OK))
	}
}

// P25.2
func TestRoom(t *testing.T) {
	for _, x := range []struct {
		task stack.Task
		link int
		room api.Limits
		e    api.Errno
	}{
		{example(), 0, limits(9, 10), api.OK}, {example(), 1, limits(5, 5), api.OK}, {example(), 2, limits(4, 7), api.OK},
		{with(example(), "0 -1 2", limits(11, 16)), 1, api.Limits{}, api.ErrConflict}, {with(example(), "0 -1 2", limits(11, 16)), 0, limits(10, 10), api.OK}, {with(example(), "0 -1 2", limits(14, 14)), 2, api.Limits{}, api.ErrConflict},
		{with(example(), "-2 1 -0", limits(-16, -10)), 0, limits(4, 7), api.OK}, {with(example(), "-2 1 -0", limits(-16, -10)), 1, limits(5, 5), api.OK}, {with(example(), "-2 1 -0", limits(-16, -10)), 2, limits(9, 10), api.OK},
		{beside(), 0, limits(99, 106), api.OK}, {beside(), 1, limits(-5, 0), api.OK}, {with(beside(), "-4", limits(-3, 7)), 0, limits(-7, 3), api.OK},
		{example(), -1, api.Limits{}, api.ErrRange}, {example(), 3, api.Limits{}, api.ErrRange}, {example(), math.MinInt, api.Limits{}, api.ErrRange}, {example(), math.MaxInt, api.Limits{}, api.ErrRange}, {beside(), 2, api.Limits{}, api.ErrRange}, {with(example(), "0 -1 2", limits(14, 14)), 3, api.Limits{}, api.ErrRange},
	} {
		room, e := stack.Room(x.task, x.link)
		expect(t, fmt.Sprint("Room ", x.link, " ", x.task), results(room, e), results(x.room, x.e))
	}
}

// P25.2: rooms that go beyond the range of lengths, and such as are beyond it altogether.
func TestRoomAtEnds(t *testing.T) {
	l := []api.Dimension{dim("A", "B", 0, -99990, 99990), dim("C", "B", 0, 60000, 60010), dim("C", "D", 0, 99999, 100000), dim("E", "D", 0, 60000, 60000)}
	for _, x := range []struct {
		chain string
		want  api.Limits
		link  int
		room  api.Limits
		e     api.Errno
	}{
		{"-1 2", limits(-99999, 0), 1, limits(-39989, 60000), api.OK}, {"-1 2", limits(-100000, 100000), 1, limits(-39990, 100000), api.OK}, {"-1 2", limits(-100000, 100000), 0, limits(0, 100000), api.OK}, {"-2 1", limits(-100000, 100000), 1, limits(0, 100000), api.OK}, {"-2", limits(-100000, 100000), 0, limits(-100000, 100000), api.OK},
		{"2 -3", limits(40000, 100000), 0, limits(100000, 100000), api.OK}, {"2 -3", limits(40001, 100000), 0, api.Limits{}, api.ErrConflict}, {"3 -2", limits(-100000, -40000), 1, limits(100000, 100000), api.OK}, {"3 -2", limits(-100000, -40001), 1, api.Limits{}, api.ErrConflict},
		{"-2 1", limits(60011, 100000), 0, limits(-39990, -11), api.OK}, {"-2 1 -0", limits(-100000, 100000), 0, limits(60000, 60010), api.OK},
		{"-1 2 -3", limits(-100000, -59999), 1, limits(20010, 60001), api.OK},
	} {
		task := stack.Task{Dimensions: l, Chain: links(x.chain), Want: x.want}
		room, e := stack.Room(task, x.link)
		expect(t, fmt.Sprint("Room ", x.link, " ", task), results(room, e), results(x.room, x.e))
	}
}

// P25.1 and P25.2: as many dimensions as permitted, with limits of the stack that are beyond the range of lengths.
func TestLong(t *testing.T) {
	task := stack.Task{Want: limits(-100000, 100000)}
	least, greatest, shares := []int{}, []int{}, []int{}
	for i := range 256 {
		d := dim("F"+strconv.Itoa(i), "F"+strconv.Itoa((i+1)%256), 1, -100000, 100000)
		x := loop.Link{Dim: i}
		least, greatest, shares = append(least, -100000), append(greatest, 100000), append(shares, 200000)
		if i%3 == 0 {
			d.From, d.To = d.To, d.From
			x.Back = true
			least[i], greatest[i] = 100000, -100000
		}
		task.Dimensions, task.Chain = append(task.Dimensions, d), append(task.Chain, x)
	}
	all, e := stack.Limits(task)
	expect(t, "Limits", results(all, e), results(limits(-25600000, 25600000), api.OK))
	for sum, want := range map[int][]int{-25600000: least, 25600000: greatest} {
		part, e := stack.Attain(task, sum > 0)
		expect(t, "Attain", results(part, e), results(want, api.OK))
		part, e = stack.Part(task, sum)
		expect(t, "Part", results(part, e), results(want, api.OK))
	}
	part, e := stack.Part(task, -1)
	want := append(slices.Clone(greatest[:127]), 99999)
	expect(t, "Part", results(part, e), results(append(want, least[128:]...), api.OK))
	got, e := stack.Shares(task)
	expect(t, "Shares", results(got, e), results(shares, api.OK))
	keeps, part, e := stack.Keeps(task)
	expect(t, "Keeps", results(keeps, part, e), results(false, least, api.OK))
	low, high, e := stack.Spare(task)
	expect(t, "Spare", results(low, high, e), results(-25500000, -25500000, api.OK))
	room, e := stack.Room(task, 255)
	expect(t, "Room", results(room, e), results(api.Limits{}, api.ErrConflict))
}
