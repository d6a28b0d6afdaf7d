package printer_test

import (
	"fmt"
	"math/rand"
	"slices"
	"strconv"
	"strings"
	"testing"

	"metrolab/api"
	"metrolab/drawing"
	"metrolab/frame"
	"metrolab/printer"
)

// expect compares results; nil and empty slices are printed alike.
func expect(t *testing.T, what string, got, want []any) {
	t.Helper()
	if g, w := fmt.Sprintf("%+v", got), fmt.Sprintf("%+v", want); g != w {
		t.Errorf("%s: %s instead of %s", what, g, w)
	}
}

func results(l ...any) []any { return l }

var none api.Drawing

func plane(name string, x int, frames ...api.Frame) api.Feature {
	return api.Feature{Name: name, At: api.Spot{X: x}, Frames: frames}
}

func of(name string, kind, axis, x, y, z, low, high int, frames ...api.Frame) api.Feature {
	return api.Feature{Name: name, Kind: kind, Axis: axis, At: api.Spot{X: x, Y: y, Z: z}, Size: api.Limits{Low: low, High: high}, Frames: frames}
}

// fits returns a frame with a text.
func fits(text string) api.Frame {
	x, e := frame.Parse(text)
	if e != api.OK {
		panic(text)
	}
	return x
}

func between(from, to string, axis, low, high int) api.Dimension {
	return api.Dimension{From: from, To: to, Axis: axis, Limits: api.Limits{Low: low, High: high}}
}

// example is the drawing of the examples.
func example() api.Drawing {
	return api.Drawing{
		Name:       "D",
		Features:   []api.Feature{plane("B", 0), of("H", api.KindHole, 2, 500, 0, 0, 90, 95, fits("position disc 20(M) B"))},
		Dimensions: []api.Dimension{between("B", "H", 0, 490, 510)},
	}
}

// plate returns a drawing with all kinds of features and lines.
func plate() api.Drawing {
	return api.Drawing{
		Name: "Plate2",
		Features: []api.Feature{
			of("A", api.KindPlane, 2, 0, -100000, 7, 0, 0, fits("flat 5"), fits("profile 100000")),
			of("Hole", api.KindHole, 1, -500, 12, 0, 1, 100000, fits("position disc 0(M) A S(L)"), fits("round 1"), fits("straight disc 3(L)")),
			of("P", api.KindPin, 0, 3, 2, 1, 7, 7, fits("runout 6 A")),
			of("S", api.KindSlot, 0, 99500, 0, 0, 20, 21, fits("parallel 2(M) A"), fits("square 4 A")),
			of("W", api.KindBall, 0, 0, 0, -9, 10, 200, fits("sphere 8"), fits("position disc 9 A P(M) S")),
		},
		Dimensions: []api.Dimension{
			between("A", "W", 2, -16, 0), between("A", "W", 2, -16, 1), between("Hole", "S", 0, 100000, 100000), between("Hole", "W", 0, 0, 500), between("P", "W", 1, -2, -1),
		},
	}
}

// lines are those of the plate.
var lines = []string{
	"drawing Plate2",
	"feature A plane z at 0 -100000 7",
	"frame A flat 5",
	"frame A profile 100000",
	"feature Hole hole y at -500 12 0 size 1 100000",
	"frame Hole position disc 0(M) A S(L)",
	"frame Hole round 1",
	"frame Hole straight disc 3(L)",
	"feature P pin x at 3 2 1 size 7 7",
	"frame P runout 6 A",
	"feature S slot x at 99500 0 0 size 20 21",
	"frame S parallel 2(M) A",
	"frame S square 4 A",
	"feature W ball x at 0 0 -9 size 10 200",
	"frame W sphere 8",
	"frame W position disc 9 A P(M) S",
	"dimension A W z -16 0",
	"dimension A W z -16 1",
	"dimension Hole S x 100000 100000",
	"dimension Hole W x 0 500",
	"dimension P W y -2 -1",
}

func text(l []string) string { return strings.Join(l, "\n") + "\n" }

// changed returns the plate behind a change.
func changed(change func(d *api.Drawing)) api.Drawing {
	d := plate()
	change(&d)
	return d
}

// wrong returns what are no drawings, with their errors.
func wrong() map[api.Errno]api.Drawing {
	return map[api.Errno]api.Drawing{
		api.ErrForm:     none,
		api.ErrLong:     changed(func(d *api.Drawing) { d.Name = strings.Repeat("x", 25) }),
		api.ErrMany:     changed(func(d *api.Drawing) { d.Features = make([]api.Feature, 33) }),
		api.ErrArg:      changed(func(d *api.Drawing) { d.Features[3].Kind = 5 }),
		api.ErrRange:    changed(func(d *api.Drawing) { d.Features[0].Frames[0].Tol = -1 }),
		api.ErrOrder:    changed(func(d *api.Drawing) { slices.Reverse(d.Features) }),
		api.ErrNone:     changed(func(d *api.Drawing) { d.Features[2].Frames[0].Datums[0].Name = "X" }),
		api.ErrTwice:    changed(func(d *api.Drawing) { d.Dimensions[3].To = "Hole" }),
		api.ErrState:    changed(func(d *api.Drawing) { d.Dimensions[0].Axis = 0 }),
		api.ErrConflict: changed(func(d *api.Drawing) { d.Dimensions[4].Limits.High = -2; d.Features[2].At.Y = 3 }),
	}
}

// P21.1 and P21.2: the error of drawing.Check comes first, from left to right.
func TestWrong(t *testing.T) {
	for want, d := range wrong() {
		what := fmt.Sprint("wrong ", want)
		l, e := printer.Lines(d)
		expect(t, what, results(l, e), results([]string{}, want))
		s, e := printer.Print(d)
		expect(t, what, results(s, e), results("", want))
		l, e = printer.Table(d)
		expect(t, what, results(l, e), results([]string{}, want))
		for _, changes := range [][]string{nil, {"x"}, make([]string, 4097)} {
			c, n, e := printer.Apply(d, changes)
			expect(t, what, results(c, n, e), results(none, 0, want))
		}
		for _, other := range wrong() {
			l, e = printer.Changes(d, other)
			expect(t, what, results(l, e), results([]string{}, want))
		}
		l, e = printer.Changes(d, plate())
		expect(t, what, results(l, e), results([]string{}, want))
		l, e = printer.Changes(plate(), d)
		expect(t, what, results(l, e), results([]string{}, want))
	}
}

// P21.1

func TestLines(t *testing.T) {
	for _, x := range []struct {
		d api.Drawing
		l []string
	}{
		{plate(), lines},
		{example(), []string{"drawing D", "feature B plane x at 0 0 0", "feature H hole z at 500 0 0 size 90 95", "frame H position disc 20(M) B", "dimension B H x 490 510"}},
		{api.Drawing{Name: "x"}, []string{"drawing x"}},
		{api.Drawing{Name: "feature", Features: []api.Feature{plane("drawing", 1)}}, []string{"drawing feature", "feature drawing plane x at 1 0 0"}},
	} {
		l, e := printer.Lines(x.d)
		expect(t, "Lines "+x.d.Name, results(l, e), results(x.l, api.OK))
		s, e := printer.Print(x.d)
		expect(t, "Print "+x.d.Name, results(s, e), results(text(x.l), api.OK))
		s, n, e := printer.Normal(text(x.l))
		expect(t, "Normal "+x.d.Name, results(s, n, e), results(text(x.l), 0, api.OK))
	}
}

func TestNormal(t *testing.T) {
	shuffled := append([]string{"# a plate", "", "  drawing   Plate2  "}, lines[16:]...)
	slices.Reverse(shuffled[3:])
	for _, i := range []int{13, 8, 4, 10, 1, 14, 15, 11, 12, 2, 3, 9, 5, 6, 7} {
		shuffled = append(shuffled, "  "+strings.ReplaceAll(lines[i], " ", "   "), "#")
	}
	for _, s := range []string{text(shuffled), strings.TrimSpace(text(lines)), "\n" + text(lines)} {
		normal, n, e := printer.Normal(s)
		expect(t, "Normal", results(normal, n, e), results(text(lines), 0, api.OK))
	}
}

// P21.1: the errors and indices of drawing.Parse.
func TestNormalErrors(t *testing.T) {
	for _, x := range []struct {
		text string
		n    int
		e    api.Errno
	}{
		{"", 0, api.ErrEmpty}, {"\n\n#", 3, api.ErrEmpty}, {"x", 0, api.ErrSyntax}, {"\n#\nfeature", 2, api.ErrSyntax}, {"drawing D\n\nfeature A plane x at 100001 0 0", 2, api.ErrRange}, {"drawing 1", 0, api.ErrForm}, {"drawing D\nfeature A ball y at 0 0 0 size 1 1", 1, api.ErrForm},
		{"drawing D\nframe A flat 5\nx", 1, api.ErrNone}, {text(lines) + lines[20], 21, api.ErrTwice}, {text(lines) + "frame W runout 1 A\n", 21, api.ErrState}, {text(slices.Delete(slices.Clone(lines), 8, 10)), 19, api.ErrNone}, {"drawing D\n" + strings.Repeat("#", drawing.MaxDrawing-9), 0, api.ErrLong},
	} {
		s, n, e := printer.Normal(x.text)
		expect(t, fmt.Sprintf("Normal %.100q", x.text), results(s, n, e), results("", x.n, x.e))
	}
	s, n, e := printer.Normal("drawing D\n" + strings.Repeat("#", drawing.MaxDrawing-10))
	expect(t, "Normal", results(s, n, e), results("drawing D\n", 0, api.OK))
}

// longest returns a drawing that has hardly less bytes than any.
func longest() api.Drawing {
	name := func(i int) string {
		return strings.Repeat("F", 22) + string([]byte{byte('A' + i/26), byte('A' + i%26)})
	}
	d := api.Drawing{Name: strings.Repeat("D", 24)}
	for i := range 32 {
		f := of(name(i), api.KindHole, 2, -100000, -100000, -100000, 100000, 100000, fits("round 100000"), fits("straight disc 100000(M)"))
		for _, x := range []api.Frame{fits("parallel disc 100000(M)"), fits("square disc 100000(M)"), fits("runout 100000"), fits("position disc 100000(M)")} {
			least := map[int]int{api.Runout: 1, api.Position: 3}[x.Kind]
			for j := range min(i, max(least, 2)) {
				if x.Kind != api.Runout || j == 0 {
					x.Datums = append(x.Datums, api.Datum{Name: name(j), Material: api.Maximum})
				}
			}
			if frame.Check(f, x) == api.OK {
				f.Frames = append(f.Frames, x)
			}
		}
		d.Features = append(d.Features, f)
	}
	for i := range 256 {
		d.Dimensions = append(d.Dimensions, between(name(0), name(1), 0, -100000, 100000-255+i))
	}
	return d
}

// P21.1 and P21.3: even the longest drawings have a normal text that is read back.
func TestLongest(t *testing.T) {
	d := longest()
	s, e := printer.Print(d)
	back, n, g := drawing.Parse(s)
	expect(t, "Print", results(e, n, g, printer.Same(d, back)), results(api.OK, 0, api.OK, true))
	if len(s) < 38000 {
		t.Errorf("only %d bytes", len(s))
	}
	other := longest()
	for i := range other.Features {
		other.Features[i].At.X--
		other.Features[i].At.X = -other.Features[i].At.X - 2
		slices.Reverse(other.Features[i].Frames)
	}
	goes(t, d, other)
}

// P21.2

func TestTable(t *testing.T) {
	for _, x := range []struct {
		d    api.Drawing
		rows []string
	}{
		{example(), []string{"B  plane  x  0    0  0  -   -   0", "H  hole   z  500  0  0  90  95  1"}},
		{plate(), []string{
			"A     plane  z  0      -100000  7   -   -       2",
			"Hole  hole   y  -500   12       0   1   100000  3",
			"P     pin    x  3      2        1   7   7       1",
			"S     slot   x  99500  0        0   20  21      2",
			"W     ball   x  0      0        -9  10  200     2",
		}},
		{api.Drawing{Name: "D"}, nil},
		{api.Drawing{Name: "D", Features: []api.Feature{plane("Long9", -3)}}, []string{"Long9  plane  x  -3  0  0  -  -  0"}},
		{api.Drawing{Name: "D", Features: []api.Feature{of("a", api.KindPin, 1, 1, 2, 3, 4, 5)}}, []string{"a  pin  y  1  2  3  4  5  0"}},
	} {
		rows, e := printer.Table(x.d)
		expect(t, "Table", results(rows, e), results(x.rows, api.OK))
	}
}

func TestSame(t *testing.T) {
	for i, change := range []func(d *api.Drawing){
		func(d *api.Drawing) { d.Name = "Plate" },
		func(d *api.Drawing) { d.Features = d.Features[:4] },
		func(d *api.Drawing) { d.Features[0], d.Features[1] = d.Features[1], d.Features[0] },
		func(d *api.Drawing) { d.Features[1].Name = "hole" },
		func(d *api.Drawing) { d.Features[1].Kind = api.KindPin },
		func(d *api.Drawing) { d.Features[1].Axis = 2 },
		func(d *api.Drawing) { d.Features[4].At.Z = 9 },
		func(d *api.Drawing) { d.Features[4].Size.Low = 11 },
		func(d *api.Drawing) { d.Features[4].Frames = nil },
		func(d *api.Drawing) { slices.Reverse(d.Features[4].Frames) },
		func(d *api.Drawing) { d.Features[4].Frames[1].Kind = 9 },
		func(d *api.Drawing) { d.Features[4].Frames[1].Disc = false },
		func(d *api.Drawing) { d.Features[4].Frames[1].Tol = -9 },
		func(d *api.Drawing) { d.Features[4].Frames[1].Material = 3 },
		func(d *api.Drawing) { d.Features[4].Frames[1].Datums[1].Material = 0 },
		func(d *api.Drawing) { d.Features[4].Frames[1].Datums[1].Name = "" },
		func(d *api.Drawing) { d.Features[4].Frames[1].Datums = d.Features[4].Frames[1].Datums[:2] },
		func(d *api.Drawing) { d.Dimensions = d.Dimensions[1:] },
		func(d *api.Drawing) { d.Dimensions[0].From = "" },
		func(d *api.Drawing) { d.Dimensions[0].To = "A" },
		func(d *api.Drawing) { d.Dimensions[0].Axis = -1 },
		func(d *api.Drawing) { d.Dimensions[0].Limits.Low = 5 },
		func(d *api.Drawing) { d.Dimensions[0].Limits.High = 5 },
	} {
		a, b := changed(change), changed(change)
		expect(t, fmt.Sprint("Same ", i), results(printer.Same(a, b), printer.Same(a, plate()), printer.Same(plate(), a)), results(true, false, false))
	}
	empty := api.Drawing{Features: []api.Feature{}, Dimensions: []api.Dimension{}}
	expect(t, "Same", results(printer.Same(plate(), plate()), printer.Same(none, none), printer.Same(none, empty), printer.Same(empty, none)), results(true, true, true, true))
	a, b := plate(), plate()
	a.Features[0].Frames[0].Datums, b.Features[0].Frames[0].Datums = nil, []api.Datum{}
	expect(t, "Same", results(printer.Same(a, b)), results(true))
}

// some returns a drawing of any kind; those of few names are often alike.
func some(random *rand.Rand) api.Drawing {
	d := api.Drawing{Name: "D" + strconv.Itoa(random.Intn(2))}
	for _, name := range []string{"A", "B", "C", "D"} {
		if random.Intn(5) == 0 {
			continue
		}
		f := of(name, random.Intn(api.Kinds), random.Intn(api.Axes), random.Intn(2)*5, 0, 0, 7, 9)
		switch f.Kind {
		case api.KindPlane:
			f.Size = api.Limits{}
		case api.KindBall:
			f.Axis = 0
		}
		for _, kind := range random.Perm(api.Characteristics) {
			x := api.Frame{Kind: kind, Disc: random.Intn(3) == 0, Tol: random.Intn(2), Material: max(0, random.Intn(5)-2)}
			for _, g := range d.Features {
				if random.Intn(3) == 0 {
					x.Datums = append(x.Datums, api.Datum{Name: g.Name, Material: random.Intn(2)})
				}
			}
			if more := append(slices.Clone(f.Frames), x); random.Intn(2) == 0 {
				g := f
				g.Frames = more
				if drawing.Check(api.Drawing{Name: "D", Features: append(slices.Clone(d.Features), g)}) == api.OK {
					f = g
				}
			}
		}
		d.Features = append(d.Features, f)
	}
	for _, from := range d.Features {
		for _, to := range d.Features {
			for axis := range api.Axes {
				far, e := drawing.Nominal(d, from.Name, to.Name, axis)
				if from.Name != to.Name && e == api.OK && random.Intn(4) == 0 {
					d.Dimensions = append(d.Dimensions, between(from.Name, to.Name, axis, far-random.Intn(2), far+random.Intn(2)))
				}
			}
		}
	}
	return d
}

// near returns a drawing with some lines in another order, or left out.
func near(random *rand.Rand, d api.Drawing) api.Drawing {
	l, _ := printer.Lines(d)
	for range 1 + random.Intn(4) {
		i, j := 1+random.Intn(len(l)), 1+random.Intn(len(l))
		if i < len(l) && j < len(l) {
			l[i], l[j] = l[j], l[i]
			if random.Intn(3) == 0 {
				l = slices.Delete(l, i, i+1)
			}
		}
	}
	other, _, e := drawing.Parse(strings.Join(l, "\n"))
	if e != api.OK {
		return d
	}
	return other
}

// P21.3: normal texts are read back, and are normal.
func TestBack(t *testing.T) {
	random := rand.New(rand.NewSource(21))
	frames := 0
	for range 1000 {
		d := some(random)
		s, e := printer.Print(d)
		back, n, g := drawing.Parse(s)
		expect(t, s, results(e, n, g, back), results(api.OK, 0, api.OK, d))
		normal, n, e := printer.Normal(s)
		expect(t, s, results(normal, n, e), results(s, 0, api.OK))
		frames += strings.Count(s, "frame")
	}
	if frames < 1500 {
		t.Errorf("only %d frames", frames)
	}
}

// P21.1 and P21.2: arguments remain as they are, and results share no memory with them or with each other.
func TestMemory(t *testing.T) {
	d := plate()
	d.Features = append(d.Features, plane("Spare", 1))[:5]
	d.Features[0].Frames = append(d.Features[0].Frames, fits("flat 77"))[:2]
	d.Dimensions = append(d.Dimensions, between("Spare", "Spare", 0, 7, 7))[:5]
	changes := []string{"- " + lines[19], "+ dimension P W y -2 0", "spare"}
	whole := func() string {
		return fmt.Sprintf("%+v %+v %+v %+v %q", d.Name, d.Features[:6], d.Features[0].Frames[:3], d.Dimensions[:6], changes)
	}
	before := whole()
	for range 2 {
		one, _ := printer.Lines(d)
		two, _ := printer.Table(d)
		three, _ := printer.Changes(d, example())
		four, n, e := printer.Apply(d, changes[:2])
		expect(t, "Memory", results(one, two[1:2], three[:1], four.Dimensions[3:], n, e), results(lines, []string{"Hole  hole   y  -500   12       0   1   100000  3"}, []string{"- drawing Plate2"}, []api.Dimension{between("P", "W", 1, -2, -1), between("P", "W", 1, -2, 0)}, 0, api.OK))
		clear(one)
		clear(two)
		clear(three)
		for _, f := range four.Features {
			for _, x := range f.Frames {
				clear(x.Datums)
			}
			clear(f.Frames)
		}
		clear(four.Features)
		clear(four.Dimensions)
		printer.Print(d)
		printer.Same(d, d)
		expect(t, "Memory", results(whole()), results(before))
	}
}
