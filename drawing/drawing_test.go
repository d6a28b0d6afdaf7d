package drawing_test

import (
	"fmt"
	"math"
	"math/rand"
	"strings"
	"testing"

	"metrolab/api"
	"metrolab/drawing"
)

// expect compares results; nil and empty slices are printed alike.
func expect(t *testing.T, what string, got, want []any) {
	t.Helper()
	if g, w := fmt.Sprintf("%+v", got), fmt.Sprintf("%+v", want); g != w {
		t.Errorf("%s: %s instead of %s", what, g, w)
	}
}

func results(l ...any) []any { return l }

var (
	none    api.Drawing
	nothing api.Feature
)

// plane and sized return features at places along X.
func plane(name string, x int, frames ...api.Frame) api.Feature {
	return api.Feature{Name: name, At: api.Spot{X: x}, Frames: frames}
}

func sized(name string, kind, axis, x int, frames ...api.Frame) api.Feature {
	return api.Feature{Name: name, Kind: kind, Axis: axis, At: api.Spot{X: x}, Size: api.Limits{Low: 90, High: 95}, Frames: frames}
}

// to returns the frame of a position with datums.
func to(datums ...string) api.Frame {
	x := api.Frame{Kind: api.Position, Tol: 20}
	for _, name := range datums {
		x.Datums = append(x.Datums, api.Datum{Name: name})
	}
	return x
}

func between(from, to string, axis, low, high int) api.Dimension {
	return api.Dimension{From: from, To: to, Axis: axis, Limits: api.Limits{Low: low, High: high}}
}

// plate returns a drawing. B stands on A, the hole H in B and A, the slot S in B and H; the ball Q is alone.
func plate() api.Drawing {
	h := to("B", "A")
	h.Disc, h.Material = true, api.Maximum
	s := to("B", "H")
	s.Datums[1].Material = api.Maximum
	return api.Drawing{
		Name: "Plate",
		Features: []api.Feature{
			plane("A", 0, api.Frame{Kind: api.Flat, Tol: 5}),
			plane("B", 100, api.Frame{Kind: api.Parallel, Tol: 8, Datums: []api.Datum{{Name: "A"}}}, api.Frame{Kind: api.Flat, Tol: 3}),
			sized("H", api.KindHole, api.AxisZ, 500, h, api.Frame{Kind: api.Round, Tol: 2}),
			sized("Q", api.KindBall, 0, -99999),
			sized("S", api.KindSlot, api.AxisX, 400, s),
		},
		Dimensions: []api.Dimension{
			between("A", "B", 0, 95, 105), between("A", "H", 0, 500, 510), between("A", "H", 0, 500, 511), between("B", "A", 0, -100, -100), between("H", "Q", 1, 0, 0), between("S", "H", 0, 0, 100),
		},
	}
}

// changed returns the plate behind a change.
func changed(change func(d *api.Drawing)) api.Drawing {
	d := plate()
	change(&d)
	return d
}

// many returns a drawing with planes F1 to Fn, each of which stands on the one before.
func many(n int) api.Drawing {
	d := api.Drawing{Name: "Many"}
	for i := range n {
		f := plane("F"+string([]byte{byte('A' + i/26), byte('A' + i%26)}), i)
		if i > 0 {
			f.Frames = []api.Frame{to(d.Features[i-1].Name)}
		}
		d.Features = append(d.Features, f)
	}
	return d
}

// measured returns a drawing with n dimensions.
func measured(n int) api.Drawing {
	d := api.Drawing{Name: "Measured", Features: []api.Feature{plane("A", 1), plane("B", 2)}}
	for i := range n {
		d.Dimensions = append(d.Dimensions, between("A", "B", 0, 0, 1+i))
	}
	return d
}

type wrongDrawing struct {
	what string
	d    api.Drawing
	e    api.Errno
}

// wrong has what are no drawings, each with its first error.
func wrong() []wrongDrawing {
	l := []wrongDrawing{{"nothing", none, api.ErrForm}, {"33 features", many(33), api.ErrMany}, {"257 dimensions", measured(257), api.ErrMany}}
	add := func(what string, e api.Errno, change func(d *api.Drawing)) {
		l = append(l, wrongDrawing{what, changed(change), e})
	}
	add("name", api.ErrForm, func(d *api.Drawing) { d.Name, d.Features = "a plate", make([]api.Feature, 33) })
	add("long name", api.ErrLong, func(d *api.Drawing) { d.Name = strings.Repeat("-", 25) })
	add("many before wrong ones", api.ErrMany, func(d *api.Drawing) { d.Features = make([]api.Feature, 33) })
	add("feature", api.ErrArg, func(d *api.Drawing) { d.Features[4].Kind, d.Features[4].Frames = 5, nil })
	add("frame", api.ErrState, func(d *api.Drawing) { d.Features[1].Frames[0].Kind = api.Sphere })
	add("two frames of a kind", api.ErrTwice, func(d *api.Drawing) { d.Features[2].Frames[1] = to("C") })
	add("feature before order", api.ErrForm, func(d *api.Drawing) { d.Features[1].Name = "" })
	add("order before feature", api.ErrOrder, func(d *api.Drawing) { d.Features[3].Name, d.Features[4].Kind = "H", 9 })
	add("same name", api.ErrOrder, func(d *api.Drawing) { d.Features[4].Name = "Q" })
	add("exchanged", api.ErrOrder, func(d *api.Drawing) { d.Features[0], d.Features[1] = d.Features[1], d.Features[0] })
	add("order before datums", api.ErrOrder, func(d *api.Drawing) { d.Features[0].Frames, d.Features[4].Name = []api.Frame{to("X")}, "P" })
	add("no datum", api.ErrNone, func(d *api.Drawing) { d.Features[4].Frames[0].Datums[1].Name = "a" })
	add("no datum, then a plane", api.ErrNone, func(d *api.Drawing) {
		d.Features[2].Frames[0].Datums = []api.Datum{{Name: "X"}, {Name: "A", Material: 1}}
	})
	add("a plane, then no datum", api.ErrForm, func(d *api.Drawing) {
		d.Features[2].Frames[0].Datums = []api.Datum{{Name: "A", Material: 2}, {Name: "X"}}
	})
	add("a plane in a frame before", api.ErrForm, func(d *api.Drawing) {
		d.Features[0].Frames, d.Features[1].Frames = nil, []api.Frame{{Kind: api.Profile, Tol: 1, Datums: []api.Datum{{Name: "A", Material: 1}}}, to("X")}
	})
	add("a plane in a frame behind", api.ErrNone, func(d *api.Drawing) {
		d.Features[1].Frames = []api.Frame{to("X"), {Kind: api.Profile, Tol: 1, Datums: []api.Datum{{Name: "A", Material: 1}}}}
	})
	add("no datum before a round", api.ErrNone, func(d *api.Drawing) { d.Features[0].Frames[0], d.Features[4].Frames[0] = to("B"), to("X") })
	add("two in a round", api.ErrConflict, func(d *api.Drawing) { d.Features[0].Frames[0] = to("B") })
	add("three in a round", api.ErrConflict, func(d *api.Drawing) { d.Features[0].Frames[0] = to("S") })
	add("a round before dimensions", api.ErrConflict, func(d *api.Drawing) { d.Features[0].Frames[0], d.Dimensions = to("H"), make([]api.Dimension, 257) })
	add("many dimensions before wrong ones", api.ErrMany, func(d *api.Drawing) { d.Dimensions = make([]api.Dimension, 257) })
	add("no name", api.ErrForm, func(d *api.Drawing) { d.Dimensions[0] = between("", "B", 0, 1, 2) })
	add("axis", api.ErrArg, func(d *api.Drawing) { d.Dimensions[0].Axis = 3 })
	add("the same feature", api.ErrTwice, func(d *api.Drawing) { d.Dimensions[0].To = "A" })
	add("wrong before order", api.ErrOrder, func(d *api.Drawing) { d.Dimensions[1] = between("A", "B", -0, 96, 95) })
	add("the same dimension", api.ErrOrder, func(d *api.Drawing) { d.Dimensions[1] = d.Dimensions[0] })
	add("descending From", api.ErrOrder, func(d *api.Drawing) { d.Dimensions[4], d.Dimensions[5] = d.Dimensions[5], d.Dimensions[4] })
	add("descending To", api.ErrOrder, func(d *api.Drawing) { d.Dimensions[0] = between("A", "S", 0, 400, 400) })
	add("descending Axis", api.ErrOrder, func(d *api.Drawing) {
		d.Dimensions = []api.Dimension{between("H", "Q", 1, 0, 0), between("H", "Q", 0, -100000, 0)}
	})
	add("descending Low", api.ErrOrder, func(d *api.Drawing) {
		d.Dimensions = []api.Dimension{between("A", "B", 0, 99, 100), between("A", "B", 0, 98, 101)}
	})
	add("descending High", api.ErrOrder, func(d *api.Drawing) {
		d.Dimensions = []api.Dimension{between("A", "B", 0, 98, 101), between("A", "B", 0, 98, 100)}
	})
	add("order before none", api.ErrOrder, func(d *api.Drawing) {
		d.Dimensions = []api.Dimension{between("A", "B", 0, 98, 101), between("A", "A1", 0, 98, 100)}
	})
	add("limits", api.ErrRange, func(d *api.Drawing) { d.Dimensions[4] = between("H", "Q", 0, -100500, 0) })
	add("no From", api.ErrNone, func(d *api.Drawing) { d.Dimensions = []api.Dimension{between("C", "Q", 2, 500, 500)} })
	add("no To", api.ErrNone, func(d *api.Drawing) { d.Dimensions = []api.Dimension{between("A", "C", 2, 500, 500)} })
	add("From is not bounded", api.ErrState, func(d *api.Drawing) { d.Dimensions = []api.Dimension{between("A", "H", 1, 500, 500)} })
	add("To is not bounded", api.ErrState, func(d *api.Drawing) { d.Dimensions = []api.Dimension{between("Q", "H", 2, 500, 500)} })
	add("less", api.ErrConflict, func(d *api.Drawing) { d.Dimensions[0].Limits.Low = 101 })
	add("more", api.ErrConflict, func(d *api.Drawing) { d.Dimensions[0].Limits.High = 99 })
	add("opposite", api.ErrConflict, func(d *api.Drawing) { d.Dimensions = []api.Dimension{between("A", "B", 0, -100, -100)} })
	add("the last dimension", api.ErrConflict, func(d *api.Drawing) { d.Dimensions[5].Limits.High = 99 })
	add("conflict before a wrong one", api.ErrConflict, func(d *api.Drawing) { d.Dimensions[0].Limits.Low, d.Dimensions[1].Axis = 101, 3 })
	return l
}

// P20.1

func TestCheck(t *testing.T) {
	for _, x := range wrong() {
		expect(t, x.what, results(drawing.Check(x.d)), results(x.e))
	}
	alone := api.Drawing{Name: "D"}
	for _, d := range []api.Drawing{plate(), alone, many(32), measured(256)} {
		expect(t, d.Name, results(drawing.Check(d)), results(api.OK))
	}
	// The distance is -100499, which is beyond all limits.
	far := changed(func(d *api.Drawing) { d.Dimensions[4] = between("H", "Q", 0, -100000, 100000) })
	expect(t, "far", results(drawing.Check(far)), results(api.ErrConflict))
	// The reach of Q has numbers beyond all coordinates.
	edge := changed(func(d *api.Drawing) {
		d.Features[3].At.X = -100000
		d.Dimensions = []api.Dimension{between("A", "Q", 0, -100000, 0)}
	})
	expect(t, "edge", results(drawing.Check(edge)), results(api.OK))
}

// P20.1 and P20.2: the error of Check comes first.
func TestWrong(t *testing.T) {
	for _, x := range wrong() {
		for _, name := range []string{"A", "X", ""} {
			f, a := drawing.Find(x.d, name)
			l, b := drawing.Depends(x.d, name)
			less, c := drawing.Remove(x.d, name)
			more, d := drawing.Add(x.d, plane(name, 0))
			expect(t, x.what, results(f, a, l, b, less, c, more, d), results(nothing, x.e, []string{}, x.e, none, x.e, none, x.e))
			for axis := -1; axis <= 3; axis++ {
				n, e := drawing.Nominal(x.d, "A", name, axis)
				expect(t, x.what, results(n, e), results(0, x.e))
			}
		}
		l, e := drawing.Datums(x.d)
		expect(t, x.what, results(l, e), results([]string{}, x.e))
	}
}

func TestFind(t *testing.T) {
	for _, d := range []api.Drawing{plate(), many(32)} {
		for _, want := range d.Features {
			f, e := drawing.Find(d, want.Name)
			expect(t, "Find "+want.Name, results(f, e), results(want, api.OK))
		}
		for _, name := range []string{"", "a", "C", "Z", "AA", "F", "FZZ", "A "} {
			f, e := drawing.Find(d, name)
			l, g := drawing.Depends(d, name)
			less, h := drawing.Remove(d, name)
			expect(t, "none "+name, results(f, e, l, g, less, h), results(nothing, api.ErrNone, []string{}, api.ErrNone, none, api.ErrNone))
		}
	}
}

func TestDepends(t *testing.T) {
	d := plate()
	for _, x := range []struct {
		name string
		want []string
	}{{"A", nil}, {"B", []string{"A"}}, {"H", []string{"A", "B"}}, {"Q", nil}, {"S", []string{"A", "B", "H"}}} {
		l, e := drawing.Depends(d, x.name)
		expect(t, "Depends "+x.name, results(l, e), results(x.want, api.OK))
	}
	l, e := drawing.Datums(d)
	expect(t, "Datums", results(l, e), results([]string{"A", "B", "H"}, api.OK))
	l, e = drawing.Datums(api.Drawing{Name: "D"})
	expect(t, "Datums", results(l, e), results([]string{}, api.OK))
	d = many(32)
	var names []string
	for i, f := range d.Features {
		l, e := drawing.Depends(d, f.Name)
		expect(t, fmt.Sprint("Depends ", i), results(l, e), results(names, api.OK))
		names = append(names, f.Name)
	}
	l, e = drawing.Datums(d)
	expect(t, "Datums", results(l, e), results(names[:31], api.OK))
}

// P20.1 and P20.3: dependence of random drawings is compared with that of a table of pairs.
func TestReachable(t *testing.T) {
	random := rand.New(rand.NewSource(20))
	conflicts := 0
	for range 300 {
		n := 2 + random.Intn(8)
		d, depends := many(n), make([][]bool, n)
		for i := range d.Features {
			d.Features[i].Frames, depends[i] = nil, make([]bool, n)
			for _, kind := range []int{api.Profile, api.Position} {
				x := api.Frame{Kind: kind, Tol: 1}
				for j := range n {
					if j != i && len(x.Datums) < 3 && random.Intn(n) == 0 && (j < i || random.Intn(3*n) == 0) {
						x.Datums = append(x.Datums, api.Datum{Name: d.Features[j].Name})
						depends[i][j] = true
					}
				}
				d.Features[i].Frames = append(d.Features[i].Frames, x)
			}
		}
		datums, want, round := closed(depends, d), api.OK, false
		for i := range n {
			round = round || depends[i][i]
		}
		if round {
			want = api.ErrConflict
			conflicts++
		}
		expect(t, fmt.Sprintf("%+v", d), results(drawing.Check(d)), results(want))
		if round {
			continue
		}
		l, e := drawing.Datums(d)
		expect(t, fmt.Sprintf("%+v", d), results(l, e), results(datums, api.OK))
		for i, f := range d.Features {
			l, e := drawing.Depends(d, f.Name)
			expect(t, fmt.Sprintf("%+v", d), results(l, e), results(selected(depends[i], d), api.OK))
		}
	}
	if conflicts < 20 || conflicts > 280 {
		t.Errorf("%d conflicts in 300 drawings", conflicts)
	}
}

// closed makes a relation transitive, and returns the names of all features that are at its right.
func closed(depends [][]bool, d api.Drawing) []string {
	right := make([]bool, len(depends))
	for k := range depends {
		for i := range depends {
			right[i] = right[i] || depends[k][i]
		}
	}
	for k := range depends {
		for i := range depends {
			for j := range depends {
				depends[i][j] = depends[i][j] || depends[i][k] && depends[k][j]
			}
		}
	}
	return selected(right, d)
}

func selected(set []bool, d api.Drawing) []string {
	var names []string
	for i, is := range set {
		if is {
			names = append(names, d.Features[i].Name)
		}
	}
	return names
}

func TestNominal(t *testing.T) {
	d := changed(func(d *api.Drawing) {
		d.Features[2].At = api.Spot{X: 500, Y: 100000, Z: 7}
		d.Features[3].At = api.Spot{X: -100000, Y: -100000, Z: 3}
		d.Dimensions = nil
	})
	for _, x := range []struct {
		from, to string
		axis     int
		n        int
		e        api.Errno
	}{
		{"A", "B", 0, 100, api.OK}, {"B", "A", 0, -100, api.OK}, {"B", "H", 0, 400, api.OK}, {"H", "S", 0, -100, api.OK}, {"Q", "H", 1, 200000, api.OK}, {"H", "Q", 0, -100500, api.OK}, {"Q", "Q", 2, 0, api.OK}, {"A", "A", 0, 0, api.OK},
		{"A", "B", 3, 0, api.ErrArg}, {"A", "B", -1, 0, api.ErrArg}, {"X", "Y", 3, 0, api.ErrArg}, {"A", "H", math.MaxInt, 0, api.ErrArg}, {"A", "H", math.MinInt, 0, api.ErrArg},
		{"X", "B", 0, 0, api.ErrNone}, {"B", "X", 0, 0, api.ErrNone}, {"", "", 0, 0, api.ErrNone}, {"X", "B", 1, 0, api.ErrNone}, {"B", "X", 1, 0, api.ErrNone},
		{"A", "B", 1, 0, api.ErrState}, {"H", "Q", 2, 0, api.ErrState}, {"Q", "H", 2, 0, api.ErrState}, {"S", "Q", 1, 0, api.ErrState}, {"Q", "S", 1, 0, api.ErrState}, {"A", "A", 2, 0, api.ErrState},
	} {
		n, e := drawing.Nominal(d, x.from, x.to, x.axis)
		expect(t, fmt.Sprint("Nominal ", x.from, x.to, x.axis), results(n, e), results(x.n, x.e))
	}
}
