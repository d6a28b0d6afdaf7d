package dimension_test

import (
	"fmt"
	"math"
	"math/rand"
	"slices"
	"strconv"
	"strings"
	"testing"

	"metrolab/api"
	"metrolab/dimension"
)

func of(from, to string, axis, low, high int) api.Dimension {
	return api.Dimension{From: from, To: to, Axis: axis, Limits: limits(low, high)}
}

var nothing api.Dimension

// long has a byte too many for a name.
var long = strings.Repeat("x", 25)

// unfit has what are no dimensions, each with its first error.
var unfit = []struct {
	d api.Dimension
	e api.Errno
}{
	{nothing, api.ErrForm},
	{of("", "B", 0, 1, 2), api.ErrForm},
	{of("1A", long, 3, 2, 1), api.ErrForm},
	{of(long, "", 3, 2, 1), api.ErrLong},
	{of("A", "", 3, 2, 1), api.ErrForm},
	{of("A", "B-", 0, 1, 2), api.ErrForm},
	{of("A", long, 3, 2, 1), api.ErrLong},
	{of("1A", "1A", 0, 1, 2), api.ErrForm},
	{of("A", "A", 0, 1, 2), api.ErrTwice},
	{of("A", "A", 3, 2, 1), api.ErrTwice},
	{of("A", "B", 3, 2, 1), api.ErrArg},
	{of("A", "B", -1, 1, 2), api.ErrArg},
	{of("A", "B", math.MaxInt, 100001, 0), api.ErrArg},
	{of("A", "B", math.MinInt, 1, 2), api.ErrArg},
	{of("A", "B", 0, 2, 1), api.ErrOrder},
	{of("A", "B", 1, -100001, 1), api.ErrRange},
	{of("A", "B", 2, 1, 100001), api.ErrRange},
	{of("A", "B", 0, 100001, 0), api.ErrRange},
	{of("A", "B", 0, math.MinInt, math.MaxInt), api.ErrRange},
}

// P17.2

func TestValid(t *testing.T) {
	for _, d := range []api.Dimension{of("A", "B", 0, 100, 110), of("a", "A", 1, 0, 0), of("B", "A", 2, -100000, 100000), of(strings.Repeat("x", 24), "x1", 0, -5, -5)} {
		expect(t, fmt.Sprint("Valid ", d), results(dimension.Valid(d)), results(api.OK))
	}
	for _, x := range unfit {
		expect(t, fmt.Sprintf("Valid %+v", x.d), results(dimension.Valid(x.d)), results(x.e))
	}
}

// P17.2: the errors of Valid come first, from left to right.
func TestUnfit(t *testing.T) {
	right := of("B", "C", 0, 1, 2)
	for _, x := range unfit {
		what := fmt.Sprintf("%+v", x.d)
		d, e := dimension.Reverse(x.d)
		expect(t, "Reverse "+what, results(d, e), results(nothing, x.e))
		for _, l := range [][]api.Dimension{{x.d, right}, {right, x.d}, {x.d, unfit[0].d}, {x.d, unfit[8].d}, {x.d, unfit[3].d}} {
			d, e = dimension.Join(l[0], l[1])
			expect(t, "Join "+what, results(d, e), results(nothing, x.e))
			d, e = dimension.Path(l)
			expect(t, "Path "+what, results(d, e), results(nothing, x.e))
		}
		for _, l := range [][]api.Dimension{{x.d}, {right, right, right, x.d}, append(slices.Repeat([]api.Dimension{right}, 300), x.d), slices.Repeat([]api.Dimension{x.d}, 300)} {
			d, e = dimension.Path(l)
			expect(t, "Path "+what, results(d, e), results(nothing, x.e))
		}
	}
}

func TestReverse(t *testing.T) {
	for _, x := range []struct{ d, back api.Dimension }{
		{of("A", "C", 0, 80, 115), of("C", "A", 0, -115, -80)},
		{of("A", "B", 1, -20, 5), of("B", "A", 1, -5, 20)},
		{of("B", "A", 2, 0, 0), of("A", "B", 2, 0, 0)},
		{of("x9", "y", 2, -100000, 99999), of("y", "x9", 2, -99999, 100000)},
	} {
		d, e := dimension.Reverse(x.d)
		expect(t, fmt.Sprint("Reverse ", x.d), results(d, e), results(x.back, api.OK))
	}
}

func TestJoin(t *testing.T) {
	for _, x := range []struct {
		a, b, joined api.Dimension
		e            api.Errno
	}{
		{of("A", "B", 0, 100, 110), of("B", "C", 0, -20, 5), of("A", "C", 0, 80, 115), api.OK},
		{of("A", "B", 2, -1, 0), of("B", "b", 2, 4, 4), of("A", "b", 2, 3, 4), api.OK},
		{of("A", "B", 1, -60000, 50000), of("B", "C", 1, -40000, 50000), of("A", "C", 1, -100000, 100000), api.OK},
		{of("A", "B", 1, -60000, 50000), of("B", "C", 1, -40001, 50000), nothing, api.ErrRange},
		{of("A", "B", 1, -60000, 50000), of("B", "C", 1, -40000, 50001), nothing, api.ErrRange},
		{of("A", "B", 0, 1, 2), of("B", "C", 1, 1, 2), nothing, api.ErrShape},
		{of("A", "B", 0, 1, 2), of("b", "C", 0, 1, 2), nothing, api.ErrShape},
		{of("A", "B", 0, 1, 2), of("C", "B", 0, 1, 2), nothing, api.ErrShape},
		{of("B", "A", 0, 1, 2), of("B", "C", 0, 1, 2), nothing, api.ErrShape},
		{of("B", "C", 0, 1, 2), of("A", "B", 0, 1, 2), nothing, api.ErrShape},
		{of("A", "B", 0, 1, 2), of("A", "B", 0, 1, 2), nothing, api.ErrShape},
		{of("A", "B", 0, 1, 2), of("C", "A", 0, 1, 2), nothing, api.ErrShape},
		{of("A", "B", 0, 1, 2), of("B", "A", 0, -2, -1), nothing, api.ErrTwice},
		{of("A", "B", 0, 1, 2), of("B", "A", 2, -2, -1), nothing, api.ErrShape},
		{of("A", "B", 0, 1, 100000), of("B", "A", 0, 1, 100000), nothing, api.ErrTwice},
		{of("A", "B", 0, 1, 100000), of("B", "C", 2, 1, 100000), nothing, api.ErrShape},
	} {
		what := fmt.Sprint(x.a, x.b)
		d, e := dimension.Join(x.a, x.b)
		expect(t, "Join "+what, results(d, e), results(x.joined, x.e))
		d, e = dimension.Path([]api.Dimension{x.a, x.b})
		expect(t, "Path "+what, results(d, e), results(x.joined, x.e))
	}
}

// row returns dimensions from F0 to F1, from there to F2, and so on.
func row(n, low, high int) []api.Dimension {
	var l []api.Dimension
	for i := range n {
		l = append(l, of("F"+strconv.Itoa(i), "F"+strconv.Itoa(i+1), 1, low, high))
	}
	return l
}

func TestPath(t *testing.T) {
	a, b, c := of("A", "B", 2, 1000, 1010), of("B", "C", 2, -200, -190), of("C", "D", 2, 5, 5)
	broken := row(256, 1, 1)
	broken[200].From, broken[250].Axis = "G", 2
	for _, x := range []struct {
		name string
		l    []api.Dimension
		d    api.Dimension
		e    api.Errno
	}{
		{"nil", nil, nothing, api.ErrEmpty},
		{"none", []api.Dimension{}, nothing, api.ErrEmpty},
		{"one", []api.Dimension{b}, b, api.OK},
		{"three", []api.Dimension{a, b, c}, of("A", "D", 2, 805, 825), api.OK},
		{"back", []api.Dimension{of("A", "B", 2, 1, 2), of("B", "C", 2, 1, 2), of("C", "B", 2, -2, -1), of("B", "D", 2, 1, 2)}, of("A", "D", 2, 1, 5), api.OK},
		{"most", row(256, -390, 390), of("F0", "F256", 1, -99840, 99840), api.OK},
		{"too many", row(257, 1, 1), nothing, api.ErrMany},
		{"too many and broken", append(row(256, 1, 1), a), nothing, api.ErrMany},
		{"too far", row(256, 390, 391), nothing, api.ErrRange},
		{"too far at last", row(101, 999, 1000), nothing, api.ErrRange},
		{"far", row(100, 999, 1000), of("F0", "F100", 1, 99900, 100000), api.OK},
		{"broken", broken, nothing, api.ErrShape},
		{"a hole", []api.Dimension{a, c}, nothing, api.ErrShape},
		{"backwards", []api.Dimension{b, a}, nothing, api.ErrShape},
		{"a round", []api.Dimension{a, b, of("C", "A", 2, 1, 2)}, nothing, api.ErrTwice},
		{"a round, then a hole", []api.Dimension{a, b, of("C", "A", 2, 1, 2), c}, nothing, api.ErrTwice},
		{"a hole, then a round", []api.Dimension{a, c, of("D", "A", 2, 1, 2)}, nothing, api.ErrShape},
		{"too far, then a hole", []api.Dimension{a, of("B", "C", 2, 0, 99999), a}, nothing, api.ErrRange},
		{"a round, then on", []api.Dimension{a, of("B", "A", 2, 1, 2), a}, nothing, api.ErrTwice},
	} {
		before := slices.Clone(x.l)
		d, e := dimension.Path(x.l)
		expect(t, x.name, results(d, e, x.l), results(x.d, x.e, before))
	}
}

// P17.3: twice reversed, a dimension is itself.
func TestTwice(t *testing.T) {
	for i, l := range some {
		d := of("A", "B", i%3, l.Low, l.High)
		back, e := dimension.Reverse(d)
		again, g := dimension.Reverse(back)
		expect(t, fmt.Sprint("twice ", d), results(e, again, g), results(api.OK, d, api.OK))
	}
}

// P17.3: paths reversed, and paths of parts.
func TestSplit(t *testing.T) {
	random := rand.New(rand.NewSource(17))
	for range 2000 {
		l := row(1+random.Intn(12), 0, 0)
		for i := range l {
			low := random.Intn(8000) - 4000
			l[i].Limits = limits(low, low+random.Intn(4000))
		}
		path, e := dimension.Path(l)
		expect(t, fmt.Sprint(l), results(e), results(api.OK))
		var back []api.Dimension
		for _, d := range l {
			d, _ = dimension.Reverse(d)
			back = slices.Insert(back, 0, d)
		}
		reversed, e := dimension.Path(back)
		want, g := dimension.Reverse(path)
		expect(t, fmt.Sprint(back), results(reversed, e), results(want, g))
		for i := 1; i < len(l); i++ {
			a, _ := dimension.Path(l[:i])
			b, _ := dimension.Path(l[i:])
			d, e := dimension.Join(a, b)
			expect(t, fmt.Sprint(l, i), results(d, e), results(path, api.OK))
		}
	}
}

// P17.3: positions that keep the dimensions of a path keep its dimension, and both of its ends are attained.
func TestPositions(t *testing.T) {
	random := rand.New(rand.NewSource(18))
	for range 500 {
		l := row(1+random.Intn(6), 0, 0)
		low, high := 0, 0
		for i := range l {
			l[i].Limits.Low = random.Intn(200) - 100
			l[i].Limits.High = l[i].Limits.Low + random.Intn(50)
			low, high = low+l[i].Limits.Low, high+l[i].Limits.High
		}
		path, e := dimension.Path(l)
		expect(t, fmt.Sprint(l), results(path.Limits, e), results(limits(low, high), api.OK))
		for range 20 {
			place := 0
			for _, d := range l {
				place += d.Limits.Low + random.Intn(d.Limits.High-d.Limits.Low+1)
			}
			inside, e := dimension.Contains(path.Limits, place)
			expect(t, fmt.Sprint(l, place), results(inside, e), results(true, api.OK))
		}
	}
}
