package freedom_test

import (
	"fmt"
	"math"
	"slices"
	"strings"
	"testing"

	"metrolab/api"
	"metrolab/drawing"
	"metrolab/freedom"
)

// expect compares results; nil and empty slices are printed alike.
func expect(t *testing.T, what string, got, want []any) {
	t.Helper()
	if g, w := fmt.Sprintf("%+v", got), fmt.Sprintf("%+v", want); g != w {
		t.Errorf("%s: %s instead of %s", what, g, w)
	}
}

func results(l ...any) []any { return l }

// nothing is the matrix beside an error.
var nothing api.Matrix

// of returns a feature of a kind, with a size if it may have one.
func of(kind, axis, x, y, z int) api.Feature {
	f := api.Feature{Name: "F", Kind: kind, Axis: axis, At: api.Spot{X: x, Y: y, Z: z}}
	if kind != api.KindPlane {
		f.Size = api.Limits{Low: 90, High: 95}
	}
	return f
}

func plane(axis, x, y, z int) api.Feature { return of(api.KindPlane, axis, x, y, z) }
func hole(axis, x, y, z int) api.Feature  { return of(api.KindHole, axis, x, y, z) }
func ball(x, y, z int) api.Feature        { return of(api.KindBall, api.AxisX, x, y, z) }

// rows reads rows of six numbers, such as "1 0 0 0 2 0; 0 1 0 0 0 0".
func rows(s string) [][]api.Rat {
	var l [][]api.Rat
	for _, row := range strings.Split(s, ";") {
		var numbers []api.Rat
		for _, word := range strings.Fields(row) {
			numbers = append(numbers, api.Rat(word))
		}
		if len(numbers) > 0 {
			l = append(l, numbers)
		}
	}
	return l
}

func matrix(s string) api.Matrix {
	l := rows(s)
	return api.Matrix{Rows: len(l), Cols: 6, Cells: slices.Concat(l...)}
}

func named(name string) api.Feature {
	f := hole(0, 0, 0, 0)
	f.Name = name
	return f
}

func sized(kind, low, high int) api.Feature {
	f := of(kind, 0, 0, 0, 0)
	f.Size = api.Limits{Low: low, High: high}
	return f
}

// unfit has what are no features, each with its error.
var unfit = []struct {
	f api.Feature
	e api.Errno
}{
	{api.Feature{}, api.ErrForm},
	{named("1"), api.ErrForm},
	{named(strings.Repeat("x", 25)), api.ErrLong},
	{of(-1, 0, 0, 0, 0), api.ErrArg},
	{of(api.Kinds, 0, 0, 0, 0), api.ErrArg},
	{of(math.MinInt, 0, 0, 0, 0), api.ErrArg},
	{of(math.MaxInt, 0, 0, 0, 0), api.ErrArg},
	{hole(-1, 0, 0, 0), api.ErrArg},
	{plane(api.Axes, 0, 0, 0), api.ErrArg},
	{hole(math.MinInt, 0, 0, 0), api.ErrArg},
	{plane(math.MaxInt, 0, 0, 0), api.ErrArg},
	{of(api.KindBall, api.AxisZ, 0, 0, 0), api.ErrForm},
	{plane(0, 100001, 0, 0), api.ErrRange},
	{ball(0, 0, -100001), api.ErrRange},
	{hole(2, 0, math.MinInt, 0), api.ErrRange},
	{sized(api.KindPlane, 1, 1), api.ErrForm},
	{sized(api.KindSlot, 2, 1), api.ErrOrder},
	{sized(api.KindPin, 0, 1), api.ErrRange},
}

// P23.1: the examples of the document, and all kinds along all axes.
func TestForms(t *testing.T) {
	for _, x := range []struct {
		f     api.Feature
		forms string
	}{
		{plane(2, 0, 0, 5), "0 0 1 0 0 0; 0 0 0 1 0 0; 0 0 0 0 1 0"},
		{hole(2, 2, 4, 0), "1 0 0 0 0 -4; 0 1 0 0 0 2; 0 0 0 1 0 0; 0 0 0 0 1 0"},
		{plane(0, 7, 8, 9), "1 0 0 0 9 -8; 0 0 0 0 1 0; 0 0 0 0 0 1"},
		{plane(1, 7, 8, 9), "0 1 0 -9 0 7; 0 0 0 1 0 0; 0 0 0 0 0 1"},
		{plane(2, 7, 8, 9), "0 0 1 8 -7 0; 0 0 0 1 0 0; 0 0 0 0 1 0"},
		{of(api.KindSlot, 0, 7, 8, 9), "1 0 0 0 9 -8; 0 0 0 0 1 0; 0 0 0 0 0 1"},
		{of(api.KindSlot, 1, 7, 8, 9), "0 1 0 -9 0 7; 0 0 0 1 0 0; 0 0 0 0 0 1"},
		{of(api.KindSlot, 2, 7, 8, 9), "0 0 1 8 -7 0; 0 0 0 1 0 0; 0 0 0 0 1 0"},
		{hole(0, 7, 8, 9), "0 1 0 -9 0 7; 0 0 1 8 -7 0; 0 0 0 0 1 0; 0 0 0 0 0 1"},
		{hole(1, 7, 8, 9), "1 0 0 0 9 -8; 0 0 1 8 -7 0; 0 0 0 1 0 0; 0 0 0 0 0 1"},
		{hole(2, 7, 8, 9), "1 0 0 0 9 -8; 0 1 0 -9 0 7; 0 0 0 1 0 0; 0 0 0 0 1 0"},
		{of(api.KindPin, 0, 7, 8, 9), "0 1 0 -9 0 7; 0 0 1 8 -7 0; 0 0 0 0 1 0; 0 0 0 0 0 1"},
		{of(api.KindPin, 1, 7, 8, 9), "1 0 0 0 9 -8; 0 0 1 8 -7 0; 0 0 0 1 0 0; 0 0 0 0 0 1"},
		{of(api.KindPin, 2, 7, 8, 9), "1 0 0 0 9 -8; 0 1 0 -9 0 7; 0 0 0 1 0 0; 0 0 0 0 1 0"},
		{ball(7, 8, 9), "1 0 0 0 9 -8; 0 1 0 -9 0 7; 0 0 1 8 -7 0"},
		{ball(-100000, 100000, 0), "1 0 0 0 0 -100000; 0 1 0 0 0 -100000; 0 0 1 100000 100000 0"},
		{plane(1, -1, 5, -2), "0 1 0 2 0 -1; 0 0 0 1 0 0; 0 0 0 0 0 1"},
	} {
		m, e := freedom.Forms(x.f)
		expect(t, fmt.Sprintf("Forms %+v", x.f), results(m, e), results(matrix(x.forms), api.OK))
	}
}

// P23.1 and P23.2: the errors of features.
func TestUnfit(t *testing.T) {
	right := plane(0, 0, 0, 0)
	many := slices.Repeat([]api.Feature{right}, 33)
	expectError := func(l []api.Feature, error api.Errno) {
		t.Helper()
		what := fmt.Sprintf("%.200v", l)
		rank, e := freedom.Rank(l)
		expect(t, "Rank "+what, results(rank, e), results(0, error))
		stopped, e := freedom.Stopped(l)
		expect(t, "Stopped "+what, results(stopped, e), results(nothing, error))
		left, e := freedom.Left(l)
		expect(t, "Left "+what, results(left, e), results([]int{}, error))
		idle, e := freedom.Idle(l)
		expect(t, "Idle "+what, results(idle, e), results([]int{}, error))
		for _, f := range []api.Feature{right, {}, of(9, 9, 0, 0, 0)} {
			fixes, e := freedom.Fixes(l, f)
			expect(t, "Fixes "+what, results(fixes, e), results(false, error))
		}
	}
	expectError(many, api.ErrMany)
	expectError(make([]api.Feature, 33), api.ErrMany)
	expectError(make([]api.Feature, 32), api.ErrForm)
	for _, x := range unfit {
		forms, e := freedom.Forms(x.f)
		expect(t, fmt.Sprintf("Forms %+v", x.f), results(forms, e), results(nothing, x.e))
		expectError([]api.Feature{x.f}, x.e)
		expectError([]api.Feature{right, right, x.f}, x.e)
		expectError(append(many[:31:31], x.f), x.e)
		expectError(append(many[:32:32], x.f), api.ErrMany)
		expectError([]api.Feature{right, x.f, {}, hole(7, 0, 0, 0)}, x.e)
		for _, l := range [][]api.Feature{nil, {right}, many[:32], {hole(2, 1, 2, 3), right, plane(2, 0, 0, 0)}} {
			fixes, e := freedom.Fixes(l, x.f)
			expect(t, fmt.Sprintf("Fixes by %d %+v", len(l), x.f), results(fixes, e), results(false, x.e))
		}
	}
}

// P23.1 and P23.2
func TestLists(t *testing.T) {
	z, x, y := plane(2, 0, 0, 5), plane(0, -3, 1, 1), plane(1, 4, 9, 4)
	for _, v := range []struct {
		name          string
		l             []api.Feature
		stopped, left string
		idle          []int
	}{
		{"none", nil, "", "1 0 0 0 0 0; 0 1 0 0 0 0; 0 0 1 0 0 0; 0 0 0 1 0 0; 0 0 0 0 1 0; 0 0 0 0 0 1", nil},
		{"a plane", []api.Feature{z}, "0 0 1 0 0 0; 0 0 0 1 0 0; 0 0 0 0 1 0", "1 0 0 0 0 0; 0 1 0 0 0 0; 0 0 0 0 0 1", nil},
		{"a plane elsewhere", []api.Feature{plane(2, 7, 8, 5)}, "0 0 1 0 0 0; 0 0 0 1 0 0; 0 0 0 0 1 0", "1 0 0 0 0 0; 0 1 0 0 0 0; 0 0 0 0 0 1", nil},
		{"two planes of one axis", []api.Feature{plane(2, 7, 8, 5), z}, "0 0 1 0 0 0; 0 0 0 1 0 0; 0 0 0 0 1 0", "1 0 0 0 0 0; 0 1 0 0 0 0; 0 0 0 0 0 1", []int{1}},
		{"three planes", []api.Feature{z, x, y}, "1 0 0 0 0 0; 0 1 0 0 0 0; 0 0 1 0 0 0; 0 0 0 1 0 0; 0 0 0 0 1 0; 0 0 0 0 0 1", "", nil},
		{"a hole", []api.Feature{hole(2, 2, 4, 0)}, "1 0 0 0 0 -4; 0 1 0 0 0 2; 0 0 0 1 0 0; 0 0 0 0 1 0", "0 0 1 0 0 0; 4 -2 0 0 0 1", nil},
		{"a plane and a hole", []api.Feature{z, hole(2, 2, 4, 0)}, "1 0 0 0 0 -4; 0 1 0 0 0 2; 0 0 1 0 0 0; 0 0 0 1 0 0; 0 0 0 0 1 0", "4 -2 0 0 0 1", nil},
		{"a plane and two holes", []api.Feature{z, hole(2, 2, 4, 0), hole(2, 2, 5, 0), ball(5, 5, 5)}, "1 0 0 0 0 0; 0 1 0 0 0 0; 0 0 1 0 0 0; 0 0 0 1 0 0; 0 0 0 0 1 0; 0 0 0 0 0 1", "", []int{3}},
		{"a plane and a hole twice", []api.Feature{z, hole(2, 2, 4, 0), hole(2, 2, 4, 77)}, "1 0 0 0 0 -4; 0 1 0 0 0 2; 0 0 1 0 0 0; 0 0 0 1 0 0; 0 0 0 0 1 0", "4 -2 0 0 0 1", []int{2}},
		{"a ball", []api.Feature{ball(1, 2, 3)}, "1 0 0 0 3 -2; 0 1 0 -3 0 1; 0 0 1 2 -1 0", "0 3 -2 1 0 0; -3 0 1 0 1 0; 2 -1 0 0 0 1", nil},
		{"two balls", []api.Feature{ball(0, 0, 0), ball(3, 5, 7)}, "1 0 0 0 0 0; 0 1 0 0 0 0; 0 0 1 0 0 0; 0 0 0 1 0 -3/7; 0 0 0 0 1 -5/7", "0 0 0 3/7 5/7 1", nil},
		{"four balls of a line", []api.Feature{ball(0, 0, 0), ball(3, 5, 7), ball(-3, -5, -7), ball(6, 10, 14)}, "1 0 0 0 0 0; 0 1 0 0 0 0; 0 0 1 0 0 0; 0 0 0 1 0 -3/7; 0 0 0 0 1 -5/7", "0 0 0 3/7 5/7 1", []int{2, 3}},
		{"planes between", []api.Feature{x, x, y, x, z, y, hole(1, 5, 5, 5)}, "1 0 0 0 0 0; 0 1 0 0 0 0; 0 0 1 0 0 0; 0 0 0 1 0 0; 0 0 0 0 1 0; 0 0 0 0 0 1", "", []int{1, 3, 5, 6}},
	} {
		stopped, e := freedom.Stopped(v.l)
		expect(t, "Stopped by "+v.name, results(stopped, e), results(matrix(v.stopped), api.OK))
		rank, e := freedom.Rank(v.l)
		expect(t, "Rank of "+v.name, results(rank, e), results(len(rows(v.stopped)), api.OK))
		left, e := freedom.Left(v.l)
		expect(t, "Left by "+v.name, results(left, e), results(rows(v.left), api.OK))
		idle, e := freedom.Idle(v.l)
		expect(t, "Idle of "+v.name, results(idle, e), results(v.idle, api.OK))
	}
}

// P23.2
func TestFixes(t *testing.T) {
	z, x, y := plane(2, 0, 0, 5), plane(0, -3, 1, 1), plane(1, 4, 9, 4)
	far := plane(2, 100000, -100000, 100000)
	for _, v := range []struct {
		l     []api.Feature
		f     api.Feature
		fixes bool
	}{
		{nil, z, false}, {nil, ball(0, 0, 0), false},
		{[]api.Feature{z}, z, true}, {[]api.Feature{z}, far, true}, {[]api.Feature{z}, of(api.KindSlot, 2, 1, 2, 3), true},
		{[]api.Feature{z}, x, false}, {[]api.Feature{z}, hole(2, 0, 0, 0), false}, {[]api.Feature{z}, ball(0, 0, 5), false},
		{[]api.Feature{z, x}, y, false}, {[]api.Feature{z, x}, hole(1, 5, 6, 7), true}, {[]api.Feature{z, x}, hole(0, 5, 6, 7), false},
		{[]api.Feature{z, x, y}, ball(5, 6, 7), true}, {slices.Repeat([]api.Feature{z, x, y, far}, 8), hole(2, 5, 6, 7), true},
		{[]api.Feature{hole(2, 2, 4, 0)}, of(api.KindPin, 2, 2, 4, 9), true}, {[]api.Feature{hole(2, 2, 4, 0)}, hole(2, 2, 3, 0), false}, {[]api.Feature{hole(2, 2, 4, 0)}, ball(2, 4, 0), false}, {[]api.Feature{hole(2, 2, 4, 0), z}, ball(2, 4, 1), true},
		{[]api.Feature{ball(0, 0, 0), ball(1, 0, 0)}, hole(0, 5, 0, 0), true}, {[]api.Feature{ball(0, 0, 0), ball(1, 0, 0)}, hole(0, 5, 1, 0), false}, {[]api.Feature{ball(0, 0, 0), ball(1, 1, 0)}, hole(0, 5, 0, 0), false},
		{slices.Repeat([]api.Feature{z}, 32), x, false},
	} {
		fixes, e := freedom.Fixes(v.l, v.f)
		expect(t, fmt.Sprintf("Fixes %+v by %+v", v.f, v.l), results(fixes, e), results(v.fixes, api.OK))
	}
}

// text has a drawing in which some positions are loose.
const text = `drawing D
feature A plane z at 0 0 0
feature B plane x at 0 0 0
feature C plane y at 0 0 0
feature H hole z at 500 200 0 size 90 95
feature K pin z at 700 200 0 size 90 95
feature N ball x at 9 9 9 size 4 5
feature P plane z at 0 0 50
feature S slot x at 40 0 0 size 5 6
frame H round 3
frame H position disc 20(M) A B C
frame H square disc 5 A
frame K straight disc 1
frame K square 2 A
frame K runout 9 H
frame K round 4
frame K position 10 A H(M)
frame N round 3
frame N position 5 A H K(M)
frame P position 7 A
frame P flat 2
frame S position 7
frame B position 7 A
frame B flat 2
frame C flat 2
frame C square 5 A
frame C position 7 A B
`

// P23.2
func TestLoose(t *testing.T) {
	d, _, e := drawing.Parse(text)
	if e != api.OK {
		t.Fatal(e)
	}
	for _, x := range []struct {
		name  string
		loose []int
		e     api.Errno
	}{
		{"A", nil, api.OK}, {"B", []int{0}, api.OK}, {"C", []int{2}, api.OK}, {"H", nil, api.OK}, {"K", []int{4}, api.OK}, {"N", nil, api.OK}, {"P", nil, api.OK}, {"S", []int{0}, api.OK},
		{"X", nil, api.ErrNone}, {"", nil, api.ErrNone}, {"a", nil, api.ErrNone}, {"H ", nil, api.ErrNone}, {strings.Repeat("x", 25), nil, api.ErrNone},
	} {
		loose, e := freedom.Loose(d, x.name)
		expect(t, "Loose "+x.name, results(loose, e), results(x.loose, x.e))
	}
}

// P23.2: errors of drawings come before that of the name.
func TestLooseErrors(t *testing.T) {
	expectError := func(text string, change func(d *api.Drawing), error api.Errno) {
		t.Helper()
		d, _, e := drawing.Parse(text)
		if e != api.OK {
			t.Fatal(e)
		}
		change(&d)
		for _, name := range []string{"H", "K", "X", ""} {
			loose, e := freedom.Loose(d, name)
			expect(t, "Loose "+name, results(loose, e), results([]int{}, error))
		}
	}
	expectError(text, func(d *api.Drawing) { *d = api.Drawing{} }, api.ErrForm)
	expectError(text, func(d *api.Drawing) { d.Name = strings.Repeat("x", 25) }, api.ErrLong)
	expectError(text, func(d *api.Drawing) { d.Features = make([]api.Feature, 33) }, api.ErrMany)
	expectError(text, func(d *api.Drawing) { d.Features = d.Features[1:] }, api.ErrNone)
	expectError(text, func(d *api.Drawing) { d.Features[0], d.Features[1] = d.Features[1], d.Features[0] }, api.ErrOrder)
	expectError(text, func(d *api.Drawing) { d.Features[5].Kind = 5 }, api.ErrArg)
	expectError(text, func(d *api.Drawing) { d.Features[3].Frames[1].Datums[0].Name = "K" }, api.ErrConflict)
	expectError(text, func(d *api.Drawing) { d.Features[3].Frames[1].Datums[0].Material = api.Least }, api.ErrForm)
	expectError(text, func(d *api.Drawing) { d.Dimensions = []api.Dimension{{From: "A", To: "A"}} }, api.ErrTwice)
}
