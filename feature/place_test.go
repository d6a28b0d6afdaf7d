package feature_test

import (
	"fmt"
	"math"
	"math/rand"
	"testing"

	"metrolab/api"
	"metrolab/feature"
)

// odd has what are no axes.
var odd = []int{-1, 3, math.MinInt, math.MaxInt}

// P18.2

func TestMove(t *testing.T) {
	f := framed()
	for _, x := range []struct {
		by, at api.Spot
		e      api.Errno
	}{
		{api.Spot{}, f.At, api.OK},
		{api.Spot{X: -1, Y: 1, Z: 99}, api.Spot{X: 0, Y: 201, Z: -201}, api.OK},
		{api.Spot{X: 99999, Y: -100000, Z: -99700}, api.Spot{X: 100000, Y: -99800, Z: -100000}, api.OK},
		{api.Spot{X: 100000}, api.Spot{}, api.ErrRange},
		{api.Spot{Y: 99801}, api.Spot{}, api.ErrRange},
		{api.Spot{Y: 99800, Z: 100000}, api.Spot{X: 1, Y: 100000, Z: 99700}, api.OK},
		{api.Spot{Z: -99701}, api.Spot{}, api.ErrRange},
		{api.Spot{Z: 100001}, api.Spot{}, api.ErrRange},
		{api.Spot{Y: -100001}, api.Spot{}, api.ErrRange},
		{api.Spot{X: -100001}, api.Spot{}, api.ErrRange},
		{api.Spot{X: math.MaxInt, Y: math.MinInt, Z: math.MaxInt}, api.Spot{}, api.ErrRange},
		{api.Spot{X: math.MinInt}, api.Spot{}, api.ErrRange},
	} {
		want := none
		if x.e == api.OK {
			want = framed()
			want.At = x.at
		}
		g, e := feature.Move(f, x.by)
		expect(t, fmt.Sprint("Move ", x.by), results(g, e), results(want, x.e))
	}
	// A way that is too long is refused, though its end is in the range.
	g, e := feature.Move(of(plane, 0, 100000, 0, 0, 0, 0), api.Spot{X: -100001})
	expect(t, "Move", results(g, e), results(none, api.ErrRange))
}

func TestMirror(t *testing.T) {
	for _, f := range append(some(), framed()) {
		for axis, at := range []api.Spot{{X: -f.At.X, Y: f.At.Y, Z: f.At.Z}, {X: f.At.X, Y: -f.At.Y, Z: f.At.Z}, {X: f.At.X, Y: f.At.Y, Z: -f.At.Z}} {
			want := f
			want.At = at
			g, e := feature.Mirror(f, axis)
			expect(t, fmt.Sprintf("Mirror %+v %d", f, axis), results(g, e), results(want, api.OK))
		}
		for _, axis := range odd {
			g, e := feature.Mirror(f, axis)
			expect(t, fmt.Sprintf("Mirror %+v %d", f, axis), results(g, e), results(none, api.ErrArg))
		}
	}
}

func TestTurn(t *testing.T) {
	// the axis behind a turn, by the axis of the turn and that before
	axes := [3][3]int{{0, 2, 1}, {2, 1, 0}, {1, 0, 2}}
	for _, f := range append(some(), framed()) {
		for axis, at := range []api.Spot{{X: f.At.X, Y: -f.At.Z, Z: f.At.Y}, {X: f.At.Z, Y: f.At.Y, Z: -f.At.X}, {X: -f.At.Y, Y: f.At.X, Z: f.At.Z}} {
			want := f
			want.At = at
			if f.Kind != ball {
				want.Axis = axes[axis][f.Axis]
			}
			g, e := feature.Turn(f, axis)
			expect(t, fmt.Sprintf("Turn %+v %d", f, axis), results(g, e), results(want, api.OK))
		}
		for _, axis := range odd {
			g, e := feature.Turn(f, axis)
			expect(t, fmt.Sprintf("Turn %+v %d", f, axis), results(g, e), results(none, api.ErrArg))
		}
	}
}

func TestTurnHole(t *testing.T) {
	h := of(hole, 2, 5000, 0, 0, 1000, 1011)
	for _, x := range []struct {
		axis int
		want api.Feature
	}{{2, of(hole, 2, 0, 5000, 0, 1000, 1011)}, {0, of(hole, 1, 5000, 0, 0, 1000, 1011)}, {1, of(hole, 0, 0, 0, -5000, 1000, 1011)}} {
		g, e := feature.Turn(h, x.axis)
		expect(t, fmt.Sprint("Turn ", x.axis), results(g, e), results(x.want, api.OK))
	}
}

// P18.2: the frames of a result are new ones, and those of the argument remain as they are.
func TestMemory(t *testing.T) {
	for i, place := range []func(f api.Feature) (api.Feature, api.Errno){
		func(f api.Feature) (api.Feature, api.Errno) { return feature.Move(f, api.Spot{}) },
		func(f api.Feature) (api.Feature, api.Errno) { return feature.Mirror(f, 1) },
		func(f api.Feature) (api.Feature, api.Errno) { return feature.Turn(f, 2) },
	} {
		f := framed()
		f.Frames = append(f.Frames, api.Frame{Kind: 77})[:3]
		f.Frames[0].Datums = append(f.Frames[0].Datums, api.Datum{Name: "spare"})[:2]
		a, _ := place(f)
		b, _ := place(f)
		expect(t, fmt.Sprint("place ", i), results(a.Frames, b.Frames), results(frames(), frames()))
		a.Frames[0].Tol = 9
		a.Frames[0].Datums[0].Name = "changed"
		a.Frames = append(a.Frames, api.Frame{})
		a.Frames[0].Datums = append(a.Frames[0].Datums, api.Datum{})
		expect(t, fmt.Sprint("place ", i), results(f.Frames, b.Frames), results(frames(), frames()))
		expect(t, fmt.Sprint("place ", i), results(f.Frames[:4][3].Kind, f.Frames[0].Datums[:3][2].Name), results(77, "spare"))
		f.Frames[1].Kind = 8
		f.Frames[2].Datums[0].Name = "changed"
		expect(t, fmt.Sprint("place ", i), results(b.Frames), results(frames()))
	}
}

// P18.3

func TestBack(t *testing.T) {
	for _, f := range append(some(), framed()) {
		for axis := range 3 {
			mirrored, turned := f, f
			var e, g api.Errno
			for i := range 4 {
				mirrored, e = feature.Mirror(mirrored, axis)
				turned, g = feature.Turn(turned, axis)
				same := feature.Same(mirrored, f)
				want := i%2 == 1 || mirrored.At == f.At
				expect(t, fmt.Sprintf("mirrored %+v %d", f, axis), results(e, g, same), results(api.OK, api.OK, want))
			}
			expect(t, fmt.Sprintf("turned %+v %d", f, axis), results(feature.Same(turned, f)), results(true))
		}
		by := api.Spot{X: -f.At.X, Y: -f.At.Y / 2, Z: -f.At.Z}
		moved, e := feature.Move(f, by)
		back, g := feature.Move(moved, api.Spot{X: -by.X, Y: -by.Y, Z: -by.Z})
		expect(t, fmt.Sprintf("moved %+v", f), results(e, g, feature.Same(back, f)), results(api.OK, api.OK, true))
	}
}

func TestTogether(t *testing.T) {
	random := rand.New(rand.NewSource(18))
	seen := map[bool]int{}
	l := near()
	for range 20000 {
		a, b := l[random.Intn(len(l))], l[random.Intn(len(l))]
		apart, _ := feature.Separate(a, b)
		for range 4 {
			a, b = together(random, a, b)
			still, e := feature.Separate(a, b)
			expect(t, fmt.Sprintf("%+v %+v", a, b), results(still, e), results(apart, api.OK))
		}
		seen[apart]++
	}
	if seen[true] < 1000 || seen[false] < 1000 {
		t.Errorf("separate and not: %v", seen)
	}
}

// together moves, mirrors or turns both of two features; if one of them would go out of its range, both remain.
func together(random *rand.Rand, a, b api.Feature) (api.Feature, api.Feature) {
	axis := random.Intn(3)
	by := api.Spot{X: random.Intn(2001) - 1000, Y: random.Intn(2001) - 1000, Z: random.Intn(2001) - 1000}
	place := func(f api.Feature) (api.Feature, api.Errno) { return feature.Move(f, by) }
	switch random.Intn(3) {
	case 0:
		place = func(f api.Feature) (api.Feature, api.Errno) { return feature.Mirror(f, axis) }
	case 1:
		place = func(f api.Feature) (api.Feature, api.Errno) { return feature.Turn(f, axis) }
	}
	c, e := place(a)
	d, g := place(b)
	if e != api.OK || g != api.OK {
		return a, b
	}
	return c, d
}
