package complete_test

import (
	"fmt"
	"math"
	"math/rand"
	"slices"
	"strconv"
	"strings"
	"testing"

	"metrolab/api"
	"metrolab/complete"
)

// expect compares results; nil and empty slices are printed alike.
func expect(t *testing.T, what string, got, want []any) {
	t.Helper()
	if g, w := fmt.Sprintf("%+v", got), fmt.Sprintf("%+v", want); g != w {
		t.Errorf("%s: %s instead of %s", what, g, w)
	}
}

func results(l ...any) []any { return l }

var nothing api.Limits

func limits(low, high int) api.Limits { return api.Limits{Low: low, High: high} }

func of(from, to string, axis, low, high int) api.Dimension {
	return api.Dimension{From: from, To: to, Axis: axis, Limits: limits(low, high)}
}

// example has the dimensions of the examples, with other limits of the third one.
func example(low, high int) []api.Dimension {
	return []api.Dimension{of("A", "B", 0, 10, 12), of("B", "C", 0, 5, 6), of("A", "C", 0, low, high)}
}

// mixed has dimensions along two axes, in several groups.
func mixed() []api.Dimension {
	return []api.Dimension{
		of("D", "C", 0, 1, 2), of("A", "B", 1, 1, 2), of("F", "B", 0, -7, 7), of("C", "A", 0, 0, 0), of("B", "C", 2, 1, 1),
		of("F", "B", 0, -9, 9), of("A", "D", 0, -5, 5), of("b", "E1", 0, 3, 4), of("B", "F", 0, -8, 8), of("E1", "A", 1, 2, 3),
	}
}

// long returns n dimensions from F0 to F1, from there to F2, and so on.
func long(n, low, high int) []api.Dimension {
	var l []api.Dimension
	for i := range n {
		l = append(l, of("F"+strconv.Itoa(i), "F"+strconv.Itoa(i+1), 1, low, high))
	}
	return l
}

// P22.1 and P22.2: errors of lists come first, in their order.
func TestLists(t *testing.T) {
	many := append(long(256, 1, 1), of("1", "B", 0, 1, 2))
	for _, x := range []struct {
		l    []api.Dimension
		axis int
		e    api.Errno
	}{
		{many, 0, api.ErrMany}, {many, 3, api.ErrMany}, {make([]api.Dimension, 257), -1, api.ErrMany},
		{many[256:], 0, api.ErrForm}, {many[1:], 0, api.ErrForm}, {many[256:], 3, api.ErrForm}, {make([]api.Dimension, 256), 0, api.ErrForm},
		{[]api.Dimension{of("A", "A", 0, 1, 2), of("1", "B", 0, 1, 2)}, 0, api.ErrTwice}, {[]api.Dimension{of("A", "B", 0, 1, 2), of("A", strings.Repeat("x", 25), 0, 2, 1)}, 4, api.ErrLong}, {[]api.Dimension{of("A", "B", 2, 2, 1)}, 0, api.ErrOrder}, {[]api.Dimension{of("A", "B", 1, 2, 100001)}, 0, api.ErrRange}, {[]api.Dimension{of("A", "B", 3, 2, 100001)}, 3, api.ErrArg},
		{nil, -1, api.ErrArg}, {nil, 3, api.ErrArg}, {mixed(), 3, api.ErrArg}, {mixed(), math.MinInt, api.ErrArg}, {mixed(), math.MaxInt, api.ErrArg},
	} {
		what := fmt.Sprintf("%.2v along %d", x.l[:min(2, len(x.l))], x.axis)
		names, e := complete.Names(x.l, x.axis)
		expect(t, "Names "+what, results(names, e), results([]string{}, x.e))
		groups, e := complete.Groups(x.l, x.axis)
		expect(t, "Groups "+what, results(groups, e), results([]string{}, x.e))
		redundant, e := complete.Redundant(x.l, x.axis)
		expect(t, "Redundant "+what, results(redundant, e), results([]int{}, x.e))
		positions, loop, ok, e := complete.Solve(x.l, x.axis)
		expect(t, "Solve "+what, results(positions, loop, ok, e), results([]int{}, []int{}, false, x.e))
		for _, loop := range [][]complete.Step{nil, {{Index: -1}}, make([]complete.Step, 300)} {
			expect(t, "Verify "+what, results(complete.Verify(x.l, x.axis, loop)), results(x.e))
		}
		for _, to := range []string{"A", "B", ""} {
			d, e := complete.Distance(x.l, "A", to, x.axis)
			expect(t, "Distance "+what, results(d, e), results(nothing, x.e))
		}
		implied, e := complete.Implied(x.l, x.axis)
		expect(t, "Implied "+what, results(implied, e), results([]int{}, x.e))
	}
}

// P22.1

func TestNames(t *testing.T) {
	for _, x := range []struct {
		l         []api.Dimension
		axis      int
		names     []string
		groups    [][]string
		redundant []int
	}{
		{nil, 0, nil, nil, nil},
		{example(16, 20), 0, []string{"A", "B", "C"}, [][]string{{"A", "B", "C"}}, []int{2}},
		{example(16, 20), 1, nil, nil, nil},
		{mixed(), 0, []string{"A", "B", "C", "D", "E1", "F", "b"}, [][]string{{"A", "C", "D"}, {"B", "F"}, {"E1", "b"}}, []int{5, 6, 8}},
		{mixed(), 1, []string{"A", "B", "E1"}, [][]string{{"A", "B", "E1"}}, nil},
		{mixed(), 2, []string{"B", "C"}, [][]string{{"B", "C"}}, nil},
		{[]api.Dimension{of("D", "C", 2, 1, 2), of("B", "A", 2, 1, 2), of("C", "B", 2, 1, 2), of("A", "D", 2, 1, 2), of("D", "B", 2, 1, 2)}, 2, []string{"A", "B", "C", "D"}, [][]string{{"A", "B", "C", "D"}}, []int{3, 4}},
		{slices.Repeat([]api.Dimension{of("b", "a", 1, 5, 6)}, 256)[250:], 1, []string{"a", "b"}, [][]string{{"a", "b"}}, []int{1, 2, 3, 4, 5}},
	} {
		what := fmt.Sprint(x.l, x.axis)
		names, e := complete.Names(x.l, x.axis)
		expect(t, "Names "+what, results(names, e), results(x.names, api.OK))
		groups, e := complete.Groups(x.l, x.axis)
		expect(t, "Groups "+what, results(groups, e), results(x.groups, api.OK))
		redundant, e := complete.Redundant(x.l, x.axis)
		expect(t, "Redundant "+what, results(redundant, e), results(x.redundant, api.OK))
	}
}

// step reads a step such as "3" or, back, "-3".
func step(s string) complete.Step {
	digits, back := strings.CutPrefix(s, "-")
	i, _ := strconv.Atoi(digits)
	return complete.Step{Index: i, Back: back}
}

func steps(s string) []complete.Step {
	var l []complete.Step
	for _, word := range strings.Fields(s) {
		l = append(l, step(word))
	}
	return l
}

func TestVerify(t *testing.T) {
	// 0 to 2 are a triangle; 3 is along another axis; 4 and 5 are a second way between A and B; 6 to 8 go on to D.
	l := []api.Dimension{
		of("A", "B", 0, 10, 12), of("B", "C", 0, 5, 6), of("A", "C", 0, 19, 20), of("B", "A", 1, -50, -40), of("B", "A", 0, -14, -13),
		of("A", "B", 0, 12, 14), of("C", "D", 0, 1, 1), of("D", "A", 0, -16, -15), of("D", "C", 0, -1, -1),
	}
	for _, x := range []struct {
		loop string
		e    api.Errno
	}{
		{"0 1 -2", api.OK}, {"1 -2 0", api.OK}, {"-2 0 1", api.OK}, {"2 -1 -0", api.ErrProof}, {"0 4", api.OK}, {"4 0", api.OK}, {"-4 -0", api.ErrProof}, {"0 -5", api.ErrProof}, {"5 -0", api.ErrProof},
		{"4 5", api.ErrProof}, {"0 -0", api.ErrProof}, {"-0 0", api.ErrProof}, {"6 8", api.ErrProof}, {"6 -6", api.ErrProof}, {"-8 -6", api.ErrProof}, {"2 6 7", api.ErrProof}, {"-7 -6 -2", api.OK}, {"0 1 6 7", api.ErrProof}, {"0 1 -8 7", api.ErrProof}, {"-7 8 -2", api.OK},
		{"", api.ErrEmpty}, {strings.Repeat("0 -0 ", 128) + "0", api.ErrMany}, {strings.Repeat("0 -0 ", 128), api.ErrTwice}, {strings.Repeat("9 ", 257), api.ErrMany}, {strings.Repeat("9 ", 256), api.ErrRange},
		{"9", api.ErrRange}, {"-9", api.ErrRange}, {"3", api.ErrArg}, {"-3", api.ErrArg}, {"0", api.ErrShape}, {"-0", api.ErrShape}, {"0 3", api.ErrArg}, {"3 0", api.ErrArg}, {"0 1", api.ErrShape}, {"0 1 2", api.ErrShape}, {"0 -1 -2", api.ErrShape}, {"0 0", api.ErrShape}, {"0 6", api.ErrShape}, {"0 5", api.ErrShape},
		{"0 1 9", api.ErrShape}, {"0 9 -2", api.ErrRange}, {"0 3 -2", api.ErrArg}, {"0 3 9", api.ErrShape}, {"9 0", api.ErrRange}, {"0 -3", api.ErrShape}, {"0 -4 9 4", api.ErrShape}, {"0 4 9 4", api.ErrRange}, {"0 4 3 4", api.ErrArg}, {"0 4 5 9", api.ErrShape}, {"0 4 5 4 9 3 0 4", api.ErrTwice},
		{"0 4 0 4", api.ErrTwice}, {"0 -0 0 1 -2", api.ErrTwice}, {"0 1 -1 1 -2", api.ErrTwice}, {"0 1 6 -6 -2", api.ErrTwice}, {"0 1 -2 2 -1 -0", api.ErrTwice}, {"0 1 6 8 2", api.ErrShape}, {"0 4 1 -1", api.ErrShape},
	} {
		expect(t, fmt.Sprintf("Verify %.50q", x.loop), results(complete.Verify(l, 0, steps(x.loop))), results(x.e))
	}
	for _, i := range []int{-1, 9, math.MinInt, math.MaxInt} {
		for _, back := range []bool{false, true} {
			s := complete.Step{Index: i, Back: back}
			expect(t, "Verify", results(complete.Verify(l, 0, []complete.Step{s}), complete.Verify(l, 0, []complete.Step{{Index: 0}, s}), complete.Verify(l, 0, []complete.Step{{Index: 0}, {Index: 4}, {Index: 2}, s, {Index: 4}}), complete.Verify(nil, 0, []complete.Step{s})), results(api.ErrRange, api.ErrShape, api.ErrTwice, api.ErrRange))
		}
	}
	expect(t, "along y", results(complete.Verify(l, 1, steps("3 -3")), complete.Verify(l, 1, steps("0 4")), complete.Verify(l, 2, steps("3 -3"))), results(api.ErrProof, api.ErrArg, api.ErrArg))
	// Exactly 0 is no contradiction.
	expect(t, "0", results(complete.Verify(example(18, 20), 0, steps("0 1 -2")), complete.Verify(example(19, 20), 0, steps("0 1 -2")), complete.Verify(example(10, 15), 0, steps("2 -1 -0")), complete.Verify(example(10, 14), 0, steps("2 -1 -0"))), results(api.ErrProof, api.OK, api.ErrProof, api.OK))
}

// P22.2

func TestDistance(t *testing.T) {
	conflict := append(mixed(), of("b", "E1", 0, 5, 6))
	for _, x := range []struct {
		l        []api.Dimension
		from, to string
		axis     int
		d        api.Limits
		e        api.Errno
	}{
		{example(16, 20), "A", "C", 0, limits(16, 18), api.OK}, {example(16, 20), "A", "B", 0, limits(10, 12), api.OK}, {example(16, 20), "B", "C", 0, limits(5, 6), api.OK}, {example(16, 20), "C", "A", 0, limits(-18, -16), api.OK},
		{example(18, 20), "A", "B", 0, limits(12, 12), api.OK}, {example(18, 20), "B", "C", 0, limits(6, 6), api.OK}, {example(18, 20), "A", "C", 0, limits(18, 18), api.OK}, {example(0, 15), "C", "B", 0, limits(-5, -5), api.OK}, {example(14, 17), "A", "C", 0, limits(15, 17), api.OK},
		{example(19, 20), "A", "C", 0, nothing, api.ErrConflict}, {example(0, 14), "C", "B", 0, nothing, api.ErrConflict},
		{mixed(), "A", "D", 0, limits(-2, -1), api.OK}, {mixed(), "C", "A", 0, limits(0, 0), api.OK}, {mixed(), "B", "F", 0, limits(-7, 7), api.OK}, {mixed(), "B", "E1", 1, limits(-5, -3), api.OK}, {mixed(), "E1", "b", 0, limits(-4, -3), api.OK},
		{mixed(), "A", "B", 0, nothing, api.ErrEmpty}, {mixed(), "b", "F", 0, nothing, api.ErrEmpty}, {mixed(), "A", "b", 1, nothing, api.ErrNone}, {mixed(), "B", "A", 2, nothing, api.ErrNone}, {mixed(), "b", "b", 1, nothing, api.ErrNone}, {mixed(), "a", "A", 0, nothing, api.ErrNone}, {mixed(), "", "", 0, nothing, api.ErrNone}, {mixed(), "A", "", 0, nothing, api.ErrNone}, {mixed(), "A", "A", 0, nothing, api.ErrTwice}, {mixed(), "b", "b", 0, nothing, api.ErrTwice}, {nil, "A", "B", 0, nothing, api.ErrNone}, {nil, "A", "A", 0, nothing, api.ErrNone},
		{conflict, "C", "A", 0, nothing, api.ErrConflict}, {conflict, "b", "E1", 0, nothing, api.ErrConflict}, {conflict, "A", "B", 0, nothing, api.ErrEmpty}, {conflict, "A", "b", 0, nothing, api.ErrEmpty}, {conflict, "b", "b", 0, nothing, api.ErrTwice}, {conflict, "x", "b", 0, nothing, api.ErrNone}, {conflict, "A", "B", 1, limits(1, 2), api.OK},
		{long(256, -100000, 100000), "F256", "F0", 1, limits(-25600000, 25600000), api.OK}, {long(256, 99999, 100000), "F1", "F256", 1, limits(25499745, 25500000), api.OK},
	} {
		d, e := complete.Distance(x.l, x.from, x.to, x.axis)
		expect(t, fmt.Sprintf("Distance %.3v %s %s %d", x.l[:min(3, len(x.l))], x.from, x.to, x.axis), results(d, e), results(x.d, x.e))
	}
}

func TestImplied(t *testing.T) {
	// Far behind one another: some distances are longer than any limits.
	far := []api.Dimension{of("A", "B", 0, 90000, 100000), of("B", "C", 0, 90000, 100000), of("C", "D", 0, -100000, -90000), of("D", "E", 0, -100000, -90000), of("A", "E", 0, -20000, 20000), of("A", "E", 0, -19999, 20000)}
	for _, x := range []struct {
		l       []api.Dimension
		axis    int
		implied []int
		e       api.Errno
	}{
		{nil, 0, nil, api.OK}, {example(14, 20), 0, []int{2}, api.OK}, {example(15, 18), 0, []int{2}, api.OK}, {example(16, 18), 0, nil, api.OK}, {example(15, 17), 0, nil, api.OK}, {example(16, 20), 0, nil, api.OK}, {example(14, 20), 1, nil, api.OK}, {example(19, 20), 0, nil, api.ErrConflict}, {example(19, 20), 1, nil, api.OK}, {example(-5, 14), 0, nil, api.ErrConflict},
		{mixed(), 0, []int{5, 6, 8}, api.OK}, {mixed(), 1, nil, api.OK}, {append(mixed(), of("b", "E1", 0, 5, 6)), 0, nil, api.ErrConflict}, {append(mixed(), of("B", "C", 2, 1, 1)), 2, []int{4, 10}, api.OK}, {append(mixed(), of("C", "B", 2, -1, 0)), 2, []int{10}, api.OK},
		{far, 0, []int{4}, api.OK}, {append(far, of("B", "E", 0, -100000, 0)), 0, []int{4, 5}, api.OK}, {append(far, of("B", "E", 0, -100000, 0), of("E", "B", 0, -10000, 100000)), 0, []int{4, 5, 6, 7}, api.OK},
		{[]api.Dimension{of("A", "B", 0, 60000, 60000), of("B", "C", 0, 60000, 60000), of("A", "C", 0, 0, 100000)}, 0, nil, api.ErrConflict}, {[]api.Dimension{of("A", "B", 0, 30000, 60000), of("B", "C", 0, 0, 60000), of("A", "C", 0, 0, 100000)}, 0, nil, api.OK}, {[]api.Dimension{of("A", "B", 0, 30000, 60000), of("B", "C", 0, 0, 40000), of("A", "C", 0, 0, 100000)}, 0, []int{2}, api.OK},
		{slices.Repeat([]api.Dimension{of("A", "B", 2, 5, 7)}, 3), 2, []int{0, 1, 2}, api.OK},
		{append(long(255, 100000, 100000), of("F0", "F2", 1, 0, 100000)), 1, nil, api.ErrConflict}, {append(long(255, 50000, 50000), of("F0", "F2", 1, 0, 100000)), 1, []int{255}, api.OK},
	} {
		implied, e := complete.Implied(x.l, x.axis)
		expect(t, fmt.Sprintf("Implied %.8v %d", x.l[:min(8, len(x.l))], x.axis), results(implied, e), results(x.implied, x.e))
	}
}

func TestSolve(t *testing.T) {
	for _, x := range []struct {
		l    []api.Dimension
		axis int
		want []complete.Position
	}{
		{nil, 2, nil}, {example(16, 20), 1, nil},
		{example(16, 20), 0, []complete.Position{{"A", 0}, {"B", 12}, {"C", 18}}}, {example(16, 17), 0, []complete.Position{{"A", 0}, {"B", 12}, {"C", 17}}}, {example(0, 16), 0, []complete.Position{{"A", 0}, {"B", 11}, {"C", 16}}}, {example(18, 100), 0, []complete.Position{{"A", 0}, {"B", 12}, {"C", 18}}},
		{mixed(), 0, []complete.Position{{"A", 0}, {"B", 0}, {"C", 0}, {"D", -1}, {"E1", 0}, {"F", 7}, {"b", -3}}}, {mixed(), 1, []complete.Position{{"A", 0}, {"B", 2}, {"E1", -2}}},
		{[]api.Dimension{of("Z", "A", 0, -3, 8), of("a", "Z", 0, -100000, 100000)}, 0, []complete.Position{{"A", 0}, {"Z", 3}, {"a", 100003}}},
	} {
		positions, loop, ok, e := complete.Solve(x.l, x.axis)
		expect(t, fmt.Sprint("Solve ", x.l, x.axis), results(positions, loop, ok, e), results(x.want, []int{}, true, api.OK))
	}
	positions, loop, ok, e := complete.Solve(long(256, 99999, 100000), 1)
	expect(t, "Solve a long list", results(len(positions), positions[1], positions[256], loop, ok, e), results(257, complete.Position{Name: "F1", At: 100000}, complete.Position{Name: "F99", At: 9900000}, []int{}, true, api.OK))
	positions, loop, ok, e = complete.Solve(example(19, 20), 0)
	if e != api.OK || ok || len(positions) != 0 || len(loop) != 3 || complete.Verify(example(19, 20), 0, loop) != api.OK {
		t.Errorf("Solve: %v %v %v %v", positions, loop, ok, e)
	}
}

// P22.2: the only loop that contradicts is long, or hidden among others.
func TestLoops(t *testing.T) {
	random := rand.New(rand.NewSource(22))
	for _, n := range []int{2, 3, 17, 255, 256} {
		for range 5 {
			// The sum of all steps forwards is -1 at most, and all limits are wide but for one end, which is that of the loop.
			l := long(n, 0, 0)
			l[n-1].To = "F0"
			sum := 0
			for i := range l {
				high := random.Intn(200) - 100
				if i == n-1 {
					high = -1 - sum
				}
				sum += high
				l[i].Limits = limits(max(high-50000, -100000), high)
				if random.Intn(2) == 0 {
					l[i] = of(l[i].To, l[i].From, 1, -high, -l[i].Limits.Low)
				}
			}
			random.Shuffle(n, func(i, j int) { l[i], l[j] = l[j], l[i] })
			positions, loop, ok, e := complete.Solve(l, 1)
			expect(t, fmt.Sprint("Solve ", n), results(positions, len(loop), ok, e, complete.Verify(l, 1, loop)), results([]int{}, n, false, api.OK, api.OK))
		}
	}
}
