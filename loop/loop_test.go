package loop_test

import (
	"fmt"
	"math"
	"slices"
	"strconv"
	"strings"
	"testing"

	"metrolab/api"
	"metrolab/loop"
)

// expect compares results; nil and empty slices are printed alike.
func expect(t *testing.T, what string, got, want []any) {
	t.Helper()
	if g, w := fmt.Sprintf("%+v", got), fmt.Sprintf("%+v", want); g != w {
		t.Errorf("%s: %.2000s instead of %.2000s", what, g, w)
	}
}

func results(l ...any) []any { return l }

// short returns the beginning of a printed value.
func short(x any) string {
	s := fmt.Sprint(x)
	return s[:min(200, len(s))]
}

func of(from, to string, axis int) api.Dimension {
	return api.Dimension{From: from, To: to, Axis: axis, Limits: api.Limits{Low: -1, High: 2}}
}

// dims reads dimensions, such as "A B" along X, and "A B y" along Y.
func dims(s string) []api.Dimension {
	var l []api.Dimension
	for _, line := range strings.Split(s, ",") {
		words := append(strings.Fields(line), "x")
		l = append(l, of(words[0], words[1], strings.Index("xyz", words[2])))
	}
	return l
}

// links reads links, such as "3" or, backwards, "-3".
func links(s string) []loop.Link {
	var c []loop.Link
	for _, word := range strings.Fields(s) {
		digits, back := strings.CutPrefix(word, "-")
		i, _ := strconv.Atoi(digits)
		c = append(c, loop.Link{Dim: i, Back: back})
	}
	return c
}

// chains reads chains.
func chains(s string) [][]loop.Link {
	var l [][]loop.Link
	for _, part := range strings.Split(s, ",") {
		if c := links(part); len(c) > 0 {
			l = append(l, c)
		}
	}
	return l
}

// example has the dimensions of the document's examples.
func example() []api.Dimension { return dims("A B, B C, A C, A C y") }

func query(from, to string, axis int) loop.Query { return loop.Query{Axis: axis, From: from, To: to} }

// name returns the name of a feature.
func name(i int) string { return "F" + strconv.Itoa(i) }

// row returns n dimensions from F0 to F1, from there to F2, and so on.
func row(n int) []api.Dimension {
	var l []api.Dimension
	for i := range n {
		l = append(l, of(name(i), name(i+1), api.AxisZ))
	}
	return l
}

// through returns the chain of the first n dimensions.
func through(n int) []loop.Link {
	var c []loop.Link
	for i := range n {
		c = append(c, loop.Link{Dim: i})
	}
	return c
}

// P24.1 and P24.2: errors of dimensions come first, in their order.
func TestDimensions(t *testing.T) {
	long := strings.Repeat("x", 25)
	for _, x := range []struct {
		l []api.Dimension
		e api.Errno
	}{
		{make([]api.Dimension, 257), api.ErrMany}, {row(257), api.ErrMany}, {append(row(256), api.Dimension{}), api.ErrMany},
		{make([]api.Dimension, 256), api.ErrForm}, {append(row(255), api.Dimension{}), api.ErrForm},
		{[]api.Dimension{of("A", "A", 0), of("1", "A", 0)}, api.ErrTwice}, {[]api.Dimension{of("A", long, 0), of("1", "A", 0)}, api.ErrLong}, {[]api.Dimension{of("1", long, 0)}, api.ErrForm},
		{[]api.Dimension{of("A", "B", 0), of("A", "B", 3), {}}, api.ErrArg}, {[]api.Dimension{of("A", "B", -1)}, api.ErrArg},
		{[]api.Dimension{{From: "A", To: "B", Limits: api.Limits{Low: 2, High: 1}}}, api.ErrOrder}, {[]api.Dimension{{From: "A", To: "B", Limits: api.Limits{Low: 2, High: 100001}}}, api.ErrRange},
	} {
		what := short(x.l)
		for _, c := range [][]loop.Link{nil, links("0"), links("999"), make([]loop.Link, 257)} {
			expect(t, "Check "+what, results(loop.Check(x.l, c)), results(x.e))
			expectError(t, x.l, c, nil, x.e)
			expectError(t, x.l, c, make([]int, len(x.l)), x.e)
		}
		for _, q := range []loop.Query{query("A", "B", 0), query("A", "A", 0), query("1", "A", 4), {}} {
			expectNone(t, x.l, q, x.e)
		}
		loops, e := loop.Loops(x.l)
		expect(t, "Loops "+what, results(loops, e), results([]int{}, x.e))
	}
}

// expectError compares the errors of all functions of a chain with one.
func expectError(t *testing.T, l []api.Dimension, c []loop.Link, values []int, error api.Errno) {
	t.Helper()
	what := short(c) + " of " + short(l)
	expect(t, "Check "+what, results(loop.Check(l, c)), results(error))
	from, to, e := loop.Ends(l, c)
	expect(t, "Ends "+what, results(from, to, e), results("", "", error))
	back, e := loop.Reverse(l, c)
	expect(t, "Reverse "+what, results(back, e), results([]int{}, error))
	sum, e := loop.Sum(l, c, values)
	expect(t, "Sum "+what, results(sum, e), results(0, error))
}

// expectNone compares the errors of the functions of a query with one.
func expectNone(t *testing.T, l []api.Dimension, x loop.Query, error api.Errno) {
	t.Helper()
	what := short(x) + " in " + short(l)
	c, e := loop.Find(l, x)
	all, g := loop.All(l, x)
	expect(t, "Find and All "+what, results(c, e, all, g), results([]int{}, error, []int{}, error))
}

// closed returns dimensions that make one closed chain, and this chain.
func closed(n int) ([]api.Dimension, []loop.Link) {
	return append(row(n-1), of(name(n-1), name(0), api.AxisZ)), through(n)
}

// P24.1
func TestCheck(t *testing.T) {
	// 0 to 2 are a triangle, 3 and 4 join its corners once more, 5 is along another axis, 6 to 9 lead to D and E.
	l := dims("A B, B C, A C, B A, A B, A B y, C D, D A, E D, E C")
	for _, s := range []string{"0", "-0", "0 1", "0 1 -2", "2 -1 -0", "-2 0 1", "0 3", "3 0", "0 -4", "-3 -0", "5", "-5", "0 1 6 7", "6 -8 9", "9 6 7 0", "7 0 1 6", "-6 -1 -0 -7", "-4 2", "-7 -6 -1", "0 1 -9 8 7"} {
		expect(t, "Check "+s, results(loop.Check(l, links(s))), results(api.OK))
	}
	for _, x := range []struct {
		chain string
		e     api.Errno
	}{
		{"", api.ErrEmpty},
		{"10", api.ErrRange}, {"0 10", api.ErrRange}, {"0 2 10", api.ErrShape}, {"0 0 10", api.ErrShape}, {"0 3 10", api.ErrRange}, {"0 3 4 10", api.ErrTwice},
		{"0 5", api.ErrShape}, {"0 -5", api.ErrShape}, {"5 0", api.ErrShape}, {"5 -0", api.ErrShape}, {"5 3", api.ErrShape}, {"-5 0", api.ErrShape}, {"5 -5", api.ErrTwice},
		{"0 2", api.ErrShape}, {"0 -1", api.ErrShape}, {"-0 1", api.ErrShape}, {"0 0", api.ErrShape}, {"1 0", api.ErrShape}, {"0 1 -2 1", api.ErrShape},
		{"0 -0", api.ErrTwice}, {"-3 3", api.ErrTwice}, {"0 1 -1", api.ErrTwice}, {"0 3 0", api.ErrTwice},
		{"0 3 4", api.ErrTwice}, {"0 1 -2 4", api.ErrTwice}, {"0 1 -2 2", api.ErrTwice}, {"0 1 -2 -7", api.ErrTwice}, {"-4 0 1", api.ErrTwice},
		{"8 7 0 1 6", api.ErrTwice}, {"8 7 2 6", api.ErrTwice}, {"9 6 7 0 1", api.ErrTwice}, {"0 1 6 -8 9", api.ErrTwice}, {"-1 -0 2 6", api.ErrTwice}, {"-8 9 -2 0 1", api.ErrTwice}, {"9 -2 8", api.ErrShape}, {"8 -6 -2 0 1", api.ErrTwice}, {"0 1 -2 3 10", api.ErrShape},
	} {
		expectError(t, l, links(x.chain), nil, x.e)
		expectError(t, l, links(x.chain), make([]int, len(l)), x.e)
	}
	for _, i := range []int{-1, 10, math.MinInt, math.MaxInt} {
		for _, back := range []bool{false, true} {
			expectError(t, l, []loop.Link{{i, back}}, nil, api.ErrRange)
			expectError(t, l, []loop.Link{{Dim: 0}, {i, back}}, nil, api.ErrRange)
			expectError(t, nil, []loop.Link{{i, back}}, nil, api.ErrRange)
		}
	}
	expectError(t, nil, nil, nil, api.ErrEmpty)
	expectError(t, l, make([]loop.Link, 256), nil, api.ErrShape)
	expectError(t, l, make([]loop.Link, 257), nil, api.ErrMany)
	expectError(t, l, slices.Repeat([]loop.Link{{Dim: -1}}, 257), nil, api.ErrMany)
}

// P24.1: chains that are as long as possible.
func TestLong(t *testing.T) {
	l, c := closed(256)
	from, to, e := loop.Ends(l, c)
	expect(t, "closed", results(loop.Check(l, c), from, to, e), results(api.OK, "F0", "F0", api.OK))
	sum, e := loop.Sum(l, c, slices.Repeat([]int{100000}, 256))
	expect(t, "sum", results(sum, e), results(25600000, api.OK))
	back, _ := loop.Reverse(l, c)
	sum, e = loop.Sum(l, back, slices.Repeat([]int{100000}, 256))
	expect(t, "sum back", results(loop.Check(l, back), sum, e), results(api.OK, -25600000, api.OK))
	loops, e := loop.Loops(l)
	expect(t, "loop", results(loops, e), results([][]loop.Link{append([]loop.Link{{Dim: 255}}, through(255)...)}, api.OK))
	for _, x := range []struct {
		from, to string
		c        []loop.Link
	}{{"F0", "F128", c[:128]}, {"F0", "F129", back[:127]}, {"F255", "F0", c[255:]}, {"F0", "F255", back[:1]}} {
		found, e := loop.Find(l, query(x.from, x.to, api.AxisZ))
		expect(t, x.from+" to "+x.to, results(found, e), results(x.c, api.OK))
	}
	l = row(256)
	found, e := loop.Find(l, query("F0", "F256", api.AxisZ))
	all, g := loop.All(l, query("F0", "F256", api.AxisZ))
	expect(t, "row", results(found, e, all, g), results(through(256), api.OK, [][]loop.Link{through(256)}, api.OK))
}

// P24.1
func TestEnds(t *testing.T) {
	l := dims("A B, B C, A C, B A, A B, A B y, C D, D A, E D, E C")
	values := []int{10, 200, 3000, -50, 7, 90000, -100000, 100000, 1, 0}
	for _, x := range []struct {
		chain, back, from, to string
		sum                   int
	}{
		{"0", "-0", "A", "B", 10}, {"-0", "0", "B", "A", -10}, {"5", "-5", "A", "B", 90000},
		{"0 1", "-1 -0", "A", "C", 210}, {"0 1 -2", "2 -1 -0", "A", "A", -2790}, {"0 3", "-3 -0", "A", "A", -40},
		{"7 0 1 6", "-6 -1 -0 -7", "D", "D", 210}, {"-8 9", "-9 8", "D", "C", -1}, {"6 -8 9", "-9 8 -6", "C", "C", -100001}, {"-6 -1 -0 -7", "7 0 1 6", "D", "D", -210},
	} {
		c := links(x.chain)
		from, to, e := loop.Ends(l, c)
		expect(t, "Ends "+x.chain, results(from, to, e), results(x.from, x.to, api.OK))
		back, e := loop.Reverse(l, c)
		expect(t, "Reverse "+x.chain, results(back, e, c), results(links(x.back), api.OK, links(x.chain)))
		sum, e := loop.Sum(l, c, values)
		expect(t, "Sum "+x.chain, results(sum, e), results(x.sum, api.OK))
	}
	c := links("2")
	for _, x := range []struct {
		values []int
		sum    int
		e      api.Errno
	}{
		{[]int{10, 5, 16, 7}, 16, api.OK}, {[]int{0, 0, -100000, 100000}, -100000, api.OK},
		{nil, 0, api.ErrShape}, {[]int{1, 2, 3}, 0, api.ErrShape}, {[]int{1, 2, 3, 4, 5}, 0, api.ErrShape}, {[]int{100001, 2, 3}, 0, api.ErrShape},
		{[]int{1, 2, 3, 100001}, 0, api.ErrRange}, {[]int{-100001, 2, 3, 4}, 0, api.ErrRange}, {[]int{1, 2, math.MinInt, 4}, 0, api.ErrRange}, {[]int{1, 2, math.MaxInt, 4}, 0, api.ErrRange},
	} {
		sum, e := loop.Sum(example(), c, x.values)
		expect(t, fmt.Sprint("Sum ", x.values), results(sum, e), results(x.sum, x.e))
	}
	sum, e := loop.Sum(example(), links("0 1"), []int{10, 5, 16, 7})
	expect(t, "Sum of the example", results(sum, e), results(15, api.OK))
	sum, e = loop.Sum(example(), links("2 -1 -0"), []int{10, 5, 16, 7})
	expect(t, "Sum of its loop", results(sum, e), results(1, api.OK))
}

// P24.2
func TestFind(t *testing.T) {
	// Two diamonds from A by way of B or C to D, and on by E or F to G, with a pair of dimensions between D and E, and dead ends at H and I.
	diamonds := dims("C D, A B, H A, E D, A C, B D, D E, E G, F G, D F, G I, H I y")
	ring := dims("D A, C D, B C, A B")
	for _, x := range []struct {
		l        []api.Dimension
		from, to string
		axis     int
		shortest string
		all      string
	}{
		{example(), "A", "C", 0, "2", "0 1, 2"}, {example(), "C", "A", 0, "-2", "-1 -0, -2"}, {example(), "A", "C", 1, "3", "3"}, {example(), "C", "A", 1, "-3", "-3"},
		{example(), "B", "C", 0, "1", "-0 2, 1"}, {example(), "A", "B", 0, "0", "0, 2 -1"},
		{ring, "A", "C", 0, "-0 -1", "-0 -1, 3 2"}, {ring, "C", "A", 0, "1 0", "1 0, -2 -3"}, {ring, "B", "A", 0, "-3", "2 1 0, -3"}, {ring, "D", "B", 0, "0 3", "0 3, -1 -2"},
		{diamonds, "A", "D", 0, "1 5", "1 5, 4 0"}, {diamonds, "D", "A", 0, "-0 -4", "-0 -4, -5 -1"}, {diamonds, "D", "E", 0, "-3", "-3, 6, 9 8 -7"},
		{diamonds, "C", "G", 0, "0 -3 7", "0 -3 7, 0 6 7, 0 9 8, -4 1 5 -3 7, -4 1 5 6 7, -4 1 5 9 8"}, {diamonds, "H", "B", 0, "2 1", "2 1, 2 4 0 -5"}, {diamonds, "I", "G", 0, "-10", "-10"}, {diamonds, "H", "I", 1, "11", "11"},
		{dims("A B, B A, A B, B A"), "A", "B", 0, "0", "0, -1, 2, -3"}, {dims("A B, B A, A B, B A"), "B", "A", 0, "-0", "-0, 1, -2, 3"},
	} {
		what := fmt.Sprintf("%s to %s along %d in %v", x.from, x.to, x.axis, x.l)
		c, e := loop.Find(x.l, query(x.from, x.to, x.axis))
		expect(t, "Find "+what, results(c, e), results(links(x.shortest), api.OK))
		all, e := loop.All(x.l, query(x.from, x.to, x.axis))
		expect(t, "All "+what, results(all, e), results(chains(x.all), api.OK))
	}
	for _, x := range []struct {
		l []api.Dimension
		q loop.Query
	}{
		{nil, query("A", "B", 0)}, {example(), query("A", "X", 0)}, {example(), query("X", "A", 0)}, {example(), query("X", "Y", 0)}, {example(), query("A", "B", 1)}, {example(), query("A", "C", 2)}, {example(), query("a", "C", 0)},
		{dims("A B, C D"), query("A", "C", 0)}, {dims("A B, C D"), query("D", "B", 0)}, {dims("A B, B C y"), query("A", "C", 0)}, {dims("A B, B C y"), query("A", "C", 1)}, {dims("A B, B C, C A, D E, D F, E F"), query("A", "F", 0)},
	} {
		c, e := loop.Find(x.l, x.q)
		all, g := loop.All(x.l, x.q)
		expect(t, fmt.Sprint(x.q, x.l), results(c, e, all, g), results([]int{}, api.ErrNone, []int{}, api.OK))
	}
}

// P24.2: the errors of queries.
func TestQueries(t *testing.T) {
	long := strings.Repeat("x", 25)
	for _, l := range [][]api.Dimension{nil, example()} {
		for _, x := range []struct {
			q loop.Query
			e api.Errno
		}{
			{query("A", "C", 3), api.ErrArg}, {query("A", "C", -1), api.ErrArg}, {query("A", "C", math.MinInt), api.ErrArg}, {query("1", "1", math.MaxInt), api.ErrArg},
			{query("", "C", 0), api.ErrForm}, {query("", long, 0), api.ErrForm}, {query(long, "", 0), api.ErrLong}, {query("A", "", 0), api.ErrForm}, {query("A", long, 1), api.ErrLong}, {query("A", "C-", 2), api.ErrForm}, {query("1", "1", 0), api.ErrForm}, {query("", "", 0), api.ErrForm}, {query(long, long, 0), api.ErrLong},
			{query("A", "A", 0), api.ErrTwice}, {query("X", "X", 2), api.ErrTwice},
		} {
			expectNone(t, l, x.q, x.e)
		}
	}
}

// P24.2: as many chains as permitted, and one more.
func TestMany(t *testing.T) {
	var l []api.Dimension
	for _, d := range row(14) {
		l = append(l, d, d)
	}
	all, e := loop.All(l, query("F0", "F14", api.AxisZ))
	first, last := []loop.Link{}, []loop.Link{}
	for i := range 14 {
		first, last = append(first, loop.Link{Dim: 2 * i}), append(last, loop.Link{Dim: 2*i + 1})
	}
	expect(t, "most", results(len(all), e), results(api.MaxFound, api.OK))
	if len(all) == api.MaxFound {
		expect(t, "first and last", results(all[0], all[len(all)-1]), results(first, last))
	}
	one, e := loop.Find(append(l, l[0]), query("F0", "F14", api.AxisZ))
	expect(t, "shortest", results(one, e), results(first, api.OK))
	l = append(l, of("F14", "F0", api.AxisZ))
	for _, x := range []loop.Query{query("F0", "F14", api.AxisZ), query("F14", "F0", api.AxisZ)} {
		all, e := loop.All(l, x)
		expect(t, "too many", results(all, e), results([]int{}, api.ErrLimit))
	}
	one, e = loop.Find(l, query("F14", "F0", api.AxisZ))
	expect(t, "shorter", results(one, e), results([]loop.Link{{Dim: 28}}, api.OK))
}

// P24.2: a few chains beside very many that lead nowhere.
func TestDeadEnds(t *testing.T) {
	l := []api.Dimension{of("A", "F0", 1)}
	for i := range 22 {
		for j := range i {
			l = append(l, of(name(j), name(i), 1))
		}
	}
	l = append(l, of("B", "A", 1), of("C", "F21", 1), of("B", "D", 1))
	n := len(l)
	for _, x := range []struct {
		from, to string
		all      [][]loop.Link
	}{
		{"A", "B", [][]loop.Link{{{n - 3, true}}}}, {"D", "A", [][]loop.Link{{{n - 1, true}, {n - 3, false}}}}, {"F0", "D", [][]loop.Link{{{0, true}, {n - 3, true}, {n - 1, false}}}},
	} {
		all, e := loop.All(l, query(x.from, x.to, 1))
		expect(t, x.from+" to "+x.to, results(all, e), results(x.all, api.OK))
	}
	many, e := loop.All(l, query("C", "D", 1))
	expect(t, "from a dead end", results(many, e), results([]int{}, api.ErrLimit))
}

// P24.2
func TestLoops(t *testing.T) {
	for _, x := range []struct {
		l     []api.Dimension
		loops string
	}{
		{nil, ""}, {dims("A B"), ""}, {row(256), ""}, {dims("A B, A B y, A B z"), ""},
		{example(), "2 -1 -0"},
		{dims("A B, B A, A B, A B y"), "1 0, 2 -0"},
		{dims("A B y, B C, C A, A B, B C z, A C y, C B y, C B"), "3 1 2, 6 -0 5, 7 1"},
		{dims("A B, C D, B D, C A, A D"), "3 0 2 -1, 4 -2 -0"},
		{dims("A B, B C, C D, D A, B D, A C"), "3 0 1 2, 4 -2 -1, 5 -1 -0"},
	} {
		loops, e := loop.Loops(x.l)
		expect(t, "Loops "+short(x.l), results(loops, e), results(chains(x.loops), api.OK))
	}
}
