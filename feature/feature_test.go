package feature_test

import (
	"fmt"
	"math"
	"slices"
	"strings"
	"testing"

	"metrolab/api"
	"metrolab/feature"
)

// expect compares results; nil and empty slices are printed alike.
func expect(t *testing.T, what string, got, want []any) {
	t.Helper()
	if g, w := fmt.Sprintf("%+v", got), fmt.Sprintf("%+v", want); g != w {
		t.Errorf("%s: %s instead of %s", what, g, w)
	}
}

func results(l ...any) []any { return l }

func limits(low, high int) api.Limits { return api.Limits{Low: low, High: high} }

// of returns a feature named F; planes have no size.
func of(kind, axis, x, y, z, low, high int) api.Feature {
	return api.Feature{Name: "F", Kind: kind, Axis: axis, At: api.Spot{X: x, Y: y, Z: z}, Size: limits(low, high)}
}

// The kinds, by short names.
const (
	plane = api.KindPlane
	hole  = api.KindHole
	pin   = api.KindPin
	slot  = api.KindSlot
	ball  = api.KindBall
)

var none api.Feature

// some has features of all kinds, along all axes, and at the ends of the ranges.
func some() []api.Feature {
	l := []api.Feature{
		of(plane, 0, 0, 0, 0, 0, 0), of(plane, 1, 100000, -100000, 7, 0, 0), of(plane, 2, 3, 5, 100000, 0, 0),
		of(ball, 0, 1, 2, 3, 1, 1), of(ball, 0, -100000, 100000, 0, 9, 100000),
	}
	for _, kind := range []int{hole, pin, slot} {
		for axis := range 3 {
			l = append(l, of(kind, axis, 5000, -300, 40, 1000, 1011), of(kind, axis, 100000, -100000, 100000, 1, 100000), of(kind, axis, -1, 0, 1, 1, 1))
		}
	}
	return l
}

// named returns a pin with a name.
func named(name string) api.Feature {
	f := of(pin, 0, 1, 2, 3, 4, 5)
	f.Name = name
	return f
}

// wrong has what are no features, each with its first error.
func wrong() []wrongFeature {
	nameless := of(9, 9, 100001, 0, 0, 2, 1)
	nameless.Name = "9"
	return []wrongFeature{
		{none, api.ErrForm}, {nameless, api.ErrForm},
		{named("a-b"), api.ErrForm}, {named(""), api.ErrForm}, {named("é"), api.ErrForm}, {named(strings.Repeat("x", 25)), api.ErrLong}, {named(strings.Repeat("-", 25)), api.ErrLong},
		{of(5, 9, 100001, 0, 0, 2, 1), api.ErrArg}, {of(5, 0, 1, 2, 3, 4, 5), api.ErrArg}, {of(-1, 0, 1, 2, 3, 4, 5), api.ErrArg}, {of(math.MaxInt, 0, 1, 2, 3, 4, 5), api.ErrArg}, {of(math.MinInt, 0, 1, 2, 3, 4, 5), api.ErrArg},
		{of(pin, 3, 100001, 0, 0, 2, 1), api.ErrArg}, {of(plane, -1, 0, 0, 0, 0, 0), api.ErrArg}, {of(ball, 3, 1, 2, 3, 4, 5), api.ErrArg}, {of(hole, math.MinInt, 1, 2, 3, 4, 5), api.ErrArg}, {of(slot, math.MaxInt, 1, 2, 3, 4, 5), api.ErrArg},
		{of(ball, 1, 100001, 2, 3, 2, 1), api.ErrForm}, {of(ball, 2, 1, 2, 3, 4, 5), api.ErrForm},
		{of(pin, 0, 100001, 2, 3, 2, 1), api.ErrRange}, {of(hole, 0, -100001, 2, 3, 4, 5), api.ErrRange}, {of(slot, 1, 1, 100001, 3, 4, 5), api.ErrRange}, {of(ball, 0, 1, -100001, 3, 4, 5), api.ErrRange}, {of(plane, 2, 1, 2, 100001, 4, 5), api.ErrRange}, {of(plane, 2, 1, 2, -100001, 0, 0), api.ErrRange}, {of(pin, 2, math.MinInt, math.MaxInt, math.MinInt, 4, 5), api.ErrRange},
		{of(plane, 0, 1, 2, 3, 0, 1), api.ErrForm}, {of(plane, 0, 1, 2, 3, -1, 0), api.ErrForm}, {of(plane, 0, 1, 2, 3, 4, 5), api.ErrForm}, {of(plane, 0, 1, 2, 3, 2, 1), api.ErrForm}, {of(plane, 0, 1, 2, 3, 0, 100001), api.ErrForm},
		{of(pin, 0, 1, 2, 3, 0, 0), api.ErrRange}, {of(hole, 0, 1, 2, 3, 0, 5), api.ErrRange}, {of(slot, 0, 1, 2, 3, -5, 5), api.ErrRange}, {of(ball, 0, 1, 2, 3, -5, -4), api.ErrRange}, {of(pin, 0, 1, 2, 3, 1, 100001), api.ErrRange}, {of(pin, 0, 1, 2, 3, 100001, 0), api.ErrRange}, {of(pin, 0, 1, 2, 3, math.MinInt, math.MaxInt), api.ErrRange},
		{of(hole, 0, 1, 2, 3, 5, 4), api.ErrOrder}, {of(slot, 0, 1, 2, 3, 1, 0), api.ErrOrder}, {of(ball, 0, 1, 2, 3, 0, -1), api.ErrOrder},
	}
}

type wrongFeature struct {
	f api.Feature
	e api.Errno
}

// P18.1

func TestCheck(t *testing.T) {
	for _, f := range some() {
		expect(t, fmt.Sprintf("Check %+v", f), results(feature.Check(f)), results(api.OK))
		f.Frames = []api.Frame{{Kind: -1, Tol: -1, Material: 9, Datums: []api.Datum{{Name: "-"}, {Name: "F"}}}, {}}
		expect(t, fmt.Sprintf("Check %+v", f), results(feature.Check(f)), results(api.OK))
	}
	for _, x := range wrong() {
		expect(t, fmt.Sprintf("Check %+v", x.f), results(feature.Check(x.f)), results(x.e))
	}
}

// P18.1 and P18.2: the error of Check is the first one of all functions, from left to right.
func TestWrong(t *testing.T) {
	right := some()[0]
	for _, x := range wrong() {
		what := fmt.Sprintf("%+v", x.f)
		x.f.Frames = []api.Frame{{Kind: 1}}
		inner, a := feature.Inner(x.f)
		most, b := feature.Maximum(x.f)
		least, c := feature.Least(x.f)
		expect(t, what, results(inner, a, most, b, least, c), results(false, x.e, 0, x.e, 0, x.e))
		for _, axis := range []int{0, 1, 2, 3, -1} {
			l, a := feature.Reach(x.f, axis)
			f, b := feature.Mirror(x.f, axis)
			g, c := feature.Turn(x.f, axis)
			expect(t, what, results(l, a, f, b, g, c), results(limits(0, 0), x.e, none, x.e, none, x.e))
		}
		for _, by := range []api.Spot{{}, {X: 100001}, {Z: math.MinInt}} {
			f, e := feature.Move(x.f, by)
			expect(t, what, results(f, e), results(none, x.e))
		}
		for _, y := range append(wrong(), wrongFeature{f: right}) {
			apart, e := feature.Separate(x.f, y.f)
			expect(t, what, results(apart, e), results(false, x.e))
		}
		apart, e := feature.Separate(right, x.f)
		expect(t, what, results(apart, e), results(false, x.e))
	}
}

// P18.1 and P18.3: sizes at maximum and at least material are both ends of the limits.
func TestMaterial(t *testing.T) {
	for _, f := range some() {
		what := fmt.Sprintf("%+v", f)
		most, least, error := f.Size.High, f.Size.Low, api.OK
		switch f.Kind {
		case hole, slot:
			most, least = least, most
		case plane:
			most, least, error = 0, 0, api.ErrState
		}
		inner, e := feature.Inner(f)
		a, g := feature.Maximum(f)
		b, h := feature.Least(f)
		expect(t, what, results(inner, e, a, g, b, h), results(f.Kind == hole || f.Kind == slot, api.OK, most, error, least, error))
	}
}

// bounded tells along which axes features are bounded, by kind and axis.
var bounded = [5][3]string{{"x", "y", "z"}, {"yz", "xz", "xy"}, {"yz", "xz", "xy"}, {"x", "y", "z"}, {"xyz", "xyz", "xyz"}}

func isBounded(f api.Feature, axis int) bool {
	return strings.Contains(bounded[f.Kind][f.Axis], "xyz"[axis:axis+1])
}

// ends returns the reach along an axis, whatever its range is.
func ends(f api.Feature, axis int) (int, int) {
	at := []int{f.At.X, f.At.Y, f.At.Z}[axis]
	half := f.Size.High/2 + f.Size.High%2
	return at - half, at + half
}

func TestReach(t *testing.T) {
	for _, f := range some() {
		for axis := range 3 {
			low, high := ends(f, axis)
			want, error := limits(low, high), api.OK
			switch {
			case !isBounded(f, axis):
				want, error = limits(0, 0), api.ErrState
			case low < -100000 || high > 100000:
				want, error = limits(0, 0), api.ErrRange
			}
			l, e := feature.Reach(f, axis)
			expect(t, fmt.Sprintf("Reach %+v %d", f, axis), results(l, e), results(want, error))
		}
		for _, axis := range []int{-1, 3, math.MinInt, math.MaxInt} {
			l, e := feature.Reach(f, axis)
			expect(t, fmt.Sprintf("Reach %+v %d", f, axis), results(l, e), results(limits(0, 0), api.ErrArg))
		}
	}
}

func TestReachEnds(t *testing.T) {
	for _, x := range []struct {
		f    api.Feature
		axis int
		l    api.Limits
		e    api.Errno
	}{
		{of(hole, 2, 5000, 0, 0, 1000, 1011), 0, limits(4494, 5506), api.OK},
		{of(hole, 2, 5000, 0, 0, 1000, 1011), 1, limits(-506, 506), api.OK},
		{of(hole, 2, 5000, 0, 0, 1000, 1011), 2, limits(0, 0), api.ErrState},
		{of(hole, 2, 5000, 0, 0, 1000, 1010), 0, limits(4495, 5505), api.OK},
		{of(plane, 0, -100000, 0, 0, 0, 0), 0, limits(-100000, -100000), api.OK},
		{of(plane, 0, -100000, 0, 0, 0, 0), 1, limits(0, 0), api.ErrState},
		{of(slot, 1, 100000, 99994, 0, 3, 11), 1, limits(99988, 100000), api.OK},
		{of(slot, 1, 100000, 99995, 0, 3, 11), 1, limits(0, 0), api.ErrRange},
		{of(slot, 1, 100000, 99995, 0, 3, 10), 1, limits(99990, 100000), api.OK},
		{of(slot, 1, 100000, 99995, 0, 3, 11), 0, limits(0, 0), api.ErrState},
		{of(ball, 0, 0, 0, -99999, 1, 2), 2, limits(-100000, -99998), api.OK},
		{of(ball, 0, 0, 0, -99999, 1, 3), 2, limits(0, 0), api.ErrRange},
		{of(pin, 0, 1, 0, 0, 100000, 100000), 1, limits(-50000, 50000), api.OK},
	} {
		l, e := feature.Reach(x.f, x.axis)
		expect(t, fmt.Sprintf("Reach %+v", x), results(l, e), results(x.l, x.e))
	}
}

func TestSeparate(t *testing.T) {
	h := of(hole, 2, 5000, 0, 0, 1000, 1011)
	for _, x := range []struct {
		a, b  api.Feature
		apart bool
	}{
		{h, of(plane, 0, 5506, 0, 0, 0, 0), false},
		{h, of(plane, 0, 5507, 0, 0, 0, 0), true},
		{h, of(plane, 0, 4494, 0, 0, 0, 0), false},
		{h, of(plane, 0, 4493, 0, 0, 0, 0), true},
		{h, of(plane, 1, 0, 507, 0, 0, 0), true},
		{h, of(plane, 2, 0, 0, 99999, 0, 0), false},
		{h, h, false},
		{h, of(pin, 0, 99999, 506, 99999, 1, 1), false},
		{h, of(pin, 0, 99999, 508, 99999, 1, 1), true},
		{of(ball, 0, 100000, 100000, 100000, 1, 100000), of(ball, 0, 0, 0, 0, 1, 100000), false},
		{of(ball, 0, 100000, 100000, 100000, 1, 100000), of(ball, 0, 0, 0, -1, 1, 100000), true},
		{of(ball, 0, 100000, 0, 0, 1, 99999), of(ball, 0, 0, 0, 0, 1, 99999), false},
		{of(ball, 0, 100000, 0, 0, 1, 99998), of(ball, 0, 0, 0, 0, 1, 99999), true},
		{of(slot, 0, 0, 0, 0, 1, 10), of(slot, 1, 90, 90, 90, 1, 10), false},
		{of(slot, 0, 0, 0, 0, 1, 10), of(slot, 0, 10, 0, 0, 1, 9), false},
		{of(slot, 0, 0, 0, 0, 1, 10), of(slot, 0, 11, 0, 0, 1, 9), true},
	} {
		apart, e := feature.Separate(x.a, x.b)
		expect(t, fmt.Sprintf("Separate %+v %+v", x.a, x.b), results(apart, e), results(x.apart, api.OK))
	}
	for _, a := range near() {
		for _, b := range near() {
			want := false
			for axis := range 3 {
				low, high := ends(a, axis)
				other, last := ends(b, axis)
				want = want || isBounded(a, axis) && isBounded(b, axis) && (high < other || last < low)
			}
			apart, e := feature.Separate(a, b)
			expect(t, fmt.Sprintf("Separate %+v %+v", a, b), results(apart, e), results(want, api.OK))
		}
	}
}

// near has features that are close together, so that some are separate, and others are not.
func near() []api.Feature {
	l := some()
	for _, at := range []api.Spot{{}, {X: 7}, {Y: -6, Z: 6}, {X: -3, Y: 9, Z: -5}} {
		for kind := range 5 {
			for axis := range 3 {
				for _, high := range []int{1, 4, 9} {
					f := api.Feature{Name: "N", Kind: kind, Axis: axis, At: at, Size: limits(1, high)}
					if kind == plane {
						f.Size = limits(0, 0)
					}
					if kind != ball || axis == 0 {
						l = append(l, f)
					}
				}
			}
		}
	}
	return l
}

// framed returns a feature with frames.
func framed() api.Feature {
	f := of(pin, 0, 1, 200, -300, 90, 101)
	f.Frames = frames()
	return f
}

func frames() []api.Frame {
	return []api.Frame{
		{Kind: api.Position, Disc: true, Tol: 50, Material: api.Maximum, Datums: []api.Datum{{Name: "A"}, {Name: "B", Material: api.Least}}},
		{Kind: api.Round, Tol: 7},
		{Kind: -5, Tol: -1, Datums: []api.Datum{{Name: "-"}}},
	}
}

// P18.2: features are the same with nil and with empty lists, and differ by any part.
func TestSame(t *testing.T) {
	equal := func(what string, a, b api.Feature, want bool) {
		t.Helper()
		expect(t, what, results(feature.Same(a, b), feature.Same(b, a)), results(want, want))
	}
	for i, f := range append(some(), framed(), none) {
		for j, g := range append(some(), framed(), none) {
			equal(fmt.Sprintf("%+v %+v", f, g), f, g, i == j)
		}
	}
	for _, x := range wrong() {
		equal("wrong", x.f, x.f, true)
		equal("wrong", x.f, framed(), false)
	}
	empty := framed()
	empty.Frames[1].Datums = []api.Datum{}
	equal("empty datums", framed(), empty, true)
	for i, change := range changes() {
		f := framed()
		change(&f)
		equal(fmt.Sprint("change ", i), f, framed(), false)
		equal(fmt.Sprint("change ", i), f, f, true)
	}
	without := framed()
	without.Frames = nil
	equal("no frames", without, framed(), false)
	empty.Frames = []api.Frame{}
	equal("empty frames", without, empty, true)
}

// changes has functions that change each part of a feature with frames.
func changes() []func(f *api.Feature) {
	return []func(f *api.Feature){
		func(f *api.Feature) { f.Name = "f" }, func(f *api.Feature) { f.Kind = hole }, func(f *api.Feature) { f.Axis = 1 },
		func(f *api.Feature) { f.At.X++ }, func(f *api.Feature) { f.At.Y++ }, func(f *api.Feature) { f.At.Z++ }, func(f *api.Feature) { f.Size.Low++ }, func(f *api.Feature) { f.Size.High++ },
		func(f *api.Feature) { f.Frames = f.Frames[:2] }, func(f *api.Feature) { f.Frames = f.Frames[1:] }, func(f *api.Feature) { f.Frames = append(f.Frames, api.Frame{}) }, func(f *api.Feature) { slices.Reverse(f.Frames) },
		func(f *api.Feature) { f.Frames[0].Kind = api.Flat }, func(f *api.Feature) { f.Frames[1].Disc = true }, func(f *api.Feature) { f.Frames[2].Tol++ }, func(f *api.Feature) { f.Frames[0].Material = api.Least },
		func(f *api.Feature) { f.Frames[0].Datums = nil }, func(f *api.Feature) { f.Frames[0].Datums = f.Frames[0].Datums[:1] }, func(f *api.Feature) { f.Frames[1].Datums = []api.Datum{{}} }, func(f *api.Feature) { slices.Reverse(f.Frames[0].Datums) },
		func(f *api.Feature) { f.Frames[0].Datums[1].Name = "C" }, func(f *api.Feature) { f.Frames[0].Datums[0].Material = api.Maximum },
	}
}
