package frame_test

import (
	"fmt"
	"math"
	"slices"
	"strings"
	"testing"

	"metrolab/api"
	"metrolab/feature"
	"metrolab/frame"
)

// expect compares results; nil and empty slices are printed alike.
func expect(t *testing.T, what string, got, want []any) {
	t.Helper()
	if g, w := fmt.Sprintf("%+v", got), fmt.Sprintf("%+v", want); g != w {
		t.Errorf("%s: %s instead of %s", what, g, w)
	}
}

func results(l ...any) []any { return l }

// of returns a feature named F, with frames.
func of(kind int, frames ...api.Frame) api.Feature {
	f := api.Feature{Name: "F", Kind: kind, At: api.Spot{X: 5}, Frames: frames}
	if kind != api.KindPlane {
		f.Size = api.Limits{Low: 1000, High: 1011}
	}
	return f
}

// at returns a frame without a round zone and a material condition.
func at(kind, tol int, datums ...string) api.Frame {
	x := api.Frame{Kind: kind, Tol: tol}
	for _, name := range datums {
		x.Datums = append(x.Datums, api.Datum{Name: name})
	}
	return x
}

// with returns a frame with a material condition.
func with(x api.Frame, material int) api.Frame {
	x.Material = material
	return x
}

func round(x api.Frame) api.Frame {
	x.Disc = true
	return x
}

var none api.Frame

// unfit has what are no features, each with its first error.
var unfit = []struct {
	f api.Feature
	e api.Errno
}{
	{api.Feature{}, api.ErrForm},
	{api.Feature{Name: "F", Kind: 5, Axis: 3}, api.ErrArg},
	{api.Feature{Name: "F", Kind: api.KindBall, Axis: 1}, api.ErrForm},
	{api.Feature{Name: strings.Repeat("F", 25)}, api.ErrLong},
	{api.Feature{Name: "F", Kind: api.KindPin}, api.ErrRange},
	{api.Feature{Name: "F", Kind: api.KindSlot, Size: api.Limits{Low: 2, High: 1}}, api.ErrOrder},
}

// textless has what have no text, each with its first error.
var textless = []struct {
	x api.Frame
	e api.Errno
}{
	{api.Frame{Kind: 9, Material: 3, Tol: -1}, api.ErrArg},
	{api.Frame{Kind: -1}, api.ErrArg}, {api.Frame{Kind: math.MaxInt}, api.ErrArg}, {api.Frame{Kind: math.MinInt}, api.ErrArg},
	{api.Frame{Material: 3, Tol: -1, Datums: make([]api.Datum, 4)}, api.ErrArg},
	{api.Frame{Material: -1}, api.ErrArg}, {api.Frame{Material: math.MaxInt}, api.ErrArg}, {api.Frame{Material: math.MinInt}, api.ErrArg},
	{at(1, -1, "A", "B", "C", "D"), api.ErrRange},
	{at(1, -1), api.ErrRange}, {at(1, 100001), api.ErrRange}, {at(1, math.MinInt), api.ErrRange}, {at(1, math.MaxInt, "-"), api.ErrRange},
	{at(1, 5, "A", "B", "C", "D"), api.ErrMany}, {at(1, 5, "-", "-", "-", "-"), api.ErrMany}, {at(8, 0, make([]string, 300)...), api.ErrMany},
	{at(1, 5, ""), api.ErrForm}, {at(1, 5, "1A"), api.ErrForm}, {at(1, 5, "A", "A(M)"), api.ErrForm}, {at(1, 5, "A", strings.Repeat("x", 25), ""), api.ErrLong}, {at(1, 5, "-", "A", "A"), api.ErrForm}, {at(1, 5, "", ""), api.ErrForm},
	{at(1, 5, "A", "A"), api.ErrTwice}, {at(1, 5, "A", "B", "A"), api.ErrTwice}, {at(1, 5, "A", "B", "B"), api.ErrTwice}, {at(1, 5, "A", "A", "-"), api.ErrTwice},
	{api.Frame{Datums: []api.Datum{{Name: "A"}, {Name: "A", Material: 3}}}, api.ErrTwice},
	{api.Frame{Datums: []api.Datum{{Name: "A", Material: 3}, {Name: "A"}}}, api.ErrArg}, {api.Frame{Datums: []api.Datum{{Name: "A"}, {Name: "B", Material: -1}}}, api.ErrArg},
	{api.Frame{Datums: []api.Datum{{Name: "-", Material: 3}}}, api.ErrForm}, {api.Frame{Datums: []api.Datum{{Name: "A", Material: math.MaxInt}, {Name: "-"}}}, api.ErrArg}, {api.Frame{Datums: []api.Datum{{Name: "A", Material: math.MinInt}}}, api.ErrArg},
}

// P19.1

func TestPlain(t *testing.T) {
	for _, x := range textless {
		expect(t, fmt.Sprintf("Plain %+v", x.x), results(frame.Plain(x.x)), results(x.e))
	}
	for kind := range 9 {
		for material := range 3 {
			for _, tol := range []int{0, 1, 99999, 100000} {
				for _, x := range []api.Frame{at(kind, tol), at(kind, tol, "A"), round(at(kind, tol, "F", "disc")), at(kind, tol, "c", "B", "A"), round(at(kind, tol, "A", "a", strings.Repeat("x", 24)))} {
					x = with(x, material)
					expect(t, fmt.Sprintf("Plain %+v", x), results(frame.Plain(x)), results(api.OK))
				}
			}
		}
	}
}

// table is that of the chapter: features, least and most datums, features that may have a round zone, and whether a material condition is permitted.
var table = [9]struct {
	features    string
	least, most int
	discs       string
	material    bool
}{
	{"hp", 0, 0, "hp", true},
	{"ls", 0, 0, "", false},
	{"lhps", 1, 2, "hp", true},
	{"lhps", 1, 2, "hp", true},
	{"hpb", 0, 0, "", false},
	{"b", 0, 0, "", false},
	{"l", 0, 3, "", false},
	{"lhp", 1, 1, "", false},
	{"lhpsb", 0, 3, "hpb", true},
}

// model returns the error of a frame of a feature, both of which are right by themselves.
func model(f api.Feature, x api.Frame) api.Errno {
	row, letter := table[x.Kind], string("lhpsb"[f.Kind])
	switch {
	case !strings.Contains(row.features, letter):
		return api.ErrState
	case x.Disc && !strings.Contains(row.discs, letter):
		return api.ErrForm
	case x.Tol == 0 && x.Material != api.Maximum:
		return api.ErrZero
	case x.Material != api.Regardless && (!row.material || f.Kind == api.KindPlane):
		return api.ErrForm
	case len(x.Datums) < row.least:
		return api.ErrEmpty
	case len(x.Datums) > row.most:
		return api.ErrMany
	case slices.Contains(x.Datums, api.Datum{Name: "F"}):
		return api.ErrTwice
	}
	return api.OK
}

// all returns frames of all kinds that have a text.
func all() []api.Frame {
	var l []api.Frame
	for i := range 9 * 2 * 3 * 2 {
		for _, datums := range [][]string{nil, {"A"}, {"F"}, {"B", "A"}, {"f", "F"}, {"C", "B", "A"}, {"A", "B", "F"}} {
			x := with(at(i%9, i/54*30, datums...), i/18%3)
			x.Disc = i/9%2 == 1
			l = append(l, x)
		}
	}
	return l
}

func TestCheck(t *testing.T) {
	for kind := range 5 {
		for _, x := range all() {
			f, what := of(kind, at(-1, -1)), fmt.Sprintf("%d %+v", kind, x)
			expect(t, "Check "+what, results(frame.Check(f, x)), results(model(f, x)))
			expect(t, "All "+what, results(frame.All(of(kind, x))), results(model(f, x)))
		}
	}
	for _, datum := range []api.Datum{{Name: "A", Material: 1}, {Name: "A", Material: 2}} {
		x := api.Frame{Kind: api.Flat, Tol: 3, Datums: []api.Datum{datum}}
		expect(t, "Check flat", results(frame.Check(of(api.KindPlane), x)), results(api.ErrMany))
		x.Kind = api.Profile
		expect(t, "Check profile", results(frame.Check(of(api.KindPlane), x)), results(api.OK))
		x.Datums[0].Name = "F"
		expect(t, "Check itself", results(frame.Check(of(api.KindPlane), x)), results(api.ErrTwice))
	}
}

// P19.1 and P19.2: the error of the feature comes first, then that of the frame by itself, then that of both together.
func TestFirst(t *testing.T) {
	for _, x := range unfit {
		x.f.Frames = slices.Repeat([]api.Frame{at(-1, -1)}, 9)
		names, e := frame.Datums(x.f)
		expect(t, fmt.Sprintf("%+v", x.f), results(frame.All(x.f), names, e), results(x.e, []string{}, x.e))
		for _, y := range []api.Frame{at(api.Flat, 1), at(api.Sphere, 0), textless[0].x} {
			refused(t, x.f, y, x.e)
		}
	}
	for _, y := range textless {
		for kind := range 5 {
			f := of(kind, y.x)
			names, e := frame.Datums(f)
			expect(t, fmt.Sprintf("%+v", f), results(frame.All(f), names, e), results(y.e, []string{}, y.e))
			refused(t, f, y.x, y.e)
		}
	}
	for kind := range 5 {
		for _, x := range all() {
			if e := model(of(kind), x); e != api.OK {
				refused(t, of(kind), x, e)
			}
		}
	}
}

// refused expects the error of a frame of a feature from all functions with both.
func refused(t *testing.T, f api.Feature, x api.Frame, e api.Errno) {
	t.Helper()
	virtual, a := frame.Virtual(f, x)
	low, b := frame.Bonus(f, x, 1000)
	far, c := frame.Bonus(f, x, math.MinInt)
	expect(t, fmt.Sprintf("%+v %+v", f, x), results(frame.Check(f, x), virtual, a, low, b, far, c), results(e, 0, e, 0, e, 0, e))
}

// P19.1: of several frames the first one with an error counts, and a frame is not twice there.
func TestAll(t *testing.T) {
	hole, pin, plane := api.KindHole, api.KindPin, api.KindPlane
	straight, square, position := at(api.Straight, 2), at(api.Square, 3, "A"), at(api.Position, 9, "B", "A")
	other := round(with(at(api.Position, 8, "C"), api.Maximum))
	for i, x := range []struct {
		f api.Feature
		e api.Errno
	}{
		{of(hole), api.OK},
		{of(hole, straight, square, position), api.OK},
		{of(hole, at(api.Runout, 1, "A"), position, at(api.Round, 1), at(api.Parallel, 1, "A"), square, straight), api.OK},
		{of(plane, at(api.Flat, 1), at(api.Parallel, 1, "A"), square, at(api.Profile, 1), at(api.Runout, 1, "A"), position), api.OK},
		{of(hole, position, position), api.ErrTwice},
		{of(hole, position, other), api.ErrTwice},
		{of(hole, position, straight, square, other), api.ErrTwice},
		{of(hole, position, position, at(-1, 0)), api.ErrTwice},
		{of(hole, position, at(-1, 0), position), api.ErrArg},
		{of(hole, position, at(api.Position, 0)), api.ErrZero},
		{of(hole, position, at(api.Position, 7, "F")), api.ErrTwice},
		{of(pin, straight, at(api.Sphere, 1), straight), api.ErrState},
		{of(pin, slices.Repeat([]api.Frame{straight}, 8)...), api.ErrTwice},
		{of(pin, slices.Repeat([]api.Frame{straight}, 9)...), api.ErrMany},
		{of(pin, make([]api.Frame, 300)...), api.ErrMany},
		{of(pin, make([]api.Frame, 8)...), api.ErrZero},
	} {
		expect(t, fmt.Sprint("All ", i), results(frame.All(x.f)), results(x.e))
		names, e := frame.Datums(x.f)
		if x.e != api.OK {
			expect(t, fmt.Sprint("Datums ", i), results(names, e), results([]string{}, x.e))
		}
	}
}

func TestDatums(t *testing.T) {
	for _, x := range []struct {
		f    api.Feature
		want []string
	}{
		{of(api.KindBall), nil},
		{of(api.KindHole, at(api.Straight, 1), at(api.Position, 1)), nil},
		{of(api.KindHole, at(api.Position, 1, "B", "A")), []string{"A", "B"}},
		{of(api.KindPlane, at(api.Position, 1, "B", "a", "A1"), at(api.Flat, 1), at(api.Profile, 1, "A", "B", "C"), at(api.Square, 1, "A"), at(api.Runout, 1, "Z"), at(api.Parallel, 1, "a", "f")), []string{"A", "A1", "B", "C", "Z", "a", "f"}},
	} {
		names, e := frame.Datums(x.f)
		expect(t, fmt.Sprintf("Datums %+v", x.f), results(names, e), results(x.want, api.OK))
	}
}

// P19.2

func TestVirtual(t *testing.T) {
	position := round(at(api.Position, 50, "A", "B"))
	for _, x := range []struct {
		kind, material int
		virtual        int
		bonus          [3]int // of 1000, 1004 and 1011
	}{
		{api.KindHole, api.Maximum, 950, [3]int{0, 4, 11}}, {api.KindHole, api.Least, 1061, [3]int{11, 7, 0}},
		{api.KindPin, api.Maximum, 1061, [3]int{11, 7, 0}}, {api.KindPin, api.Least, 950, [3]int{0, 4, 11}},
		{api.KindSlot, api.Maximum, 950, [3]int{0, 4, 11}}, {api.KindSlot, api.Least, 1061, [3]int{11, 7, 0}},
		{api.KindBall, api.Maximum, 1061, [3]int{11, 7, 0}}, {api.KindBall, api.Least, 950, [3]int{0, 4, 11}},
	} {
		f, y := of(x.kind), with(position, x.material)
		y.Disc = x.kind != api.KindSlot
		what := fmt.Sprint(x.kind, x.material)
		virtual, e := frame.Virtual(f, y)
		expect(t, "Virtual "+what, results(virtual, e), results(x.virtual, api.OK))
		for i, size := range []int{1000, 1004, 1011} {
			bonus, e := frame.Bonus(f, y, size)
			expect(t, "Bonus "+what, results(bonus, e), results(x.bonus[i], api.OK))
			bonus, e = frame.Bonus(f, with(y, api.Regardless), size)
			expect(t, "Bonus "+what, results(bonus, e), results(0, api.OK))
		}
		for _, material := range []int{x.material, api.Regardless} {
			for _, size := range []int{999, 1012, 0, -1000, math.MinInt, math.MaxInt} {
				bonus, e := frame.Bonus(f, with(y, material), size)
				expect(t, fmt.Sprint("Bonus ", what, size), results(bonus, e), results(0, api.ErrRange))
			}
		}
		virtual, e = frame.Virtual(f, with(y, api.Regardless))
		expect(t, "Virtual "+what, results(virtual, e), results(0, api.ErrState))
	}
}

// P19.2: planes have no size, and so no bonus; and a virtual condition may be negative, or beyond all coordinates.
func TestVirtualEnds(t *testing.T) {
	for _, size := range []int{0, 1000, -1} {
		bonus, e := frame.Bonus(of(api.KindPlane), at(api.Position, 50), size)
		expect(t, "Bonus of a plane", results(bonus, e), results(0, api.ErrState))
	}
	virtual, e := frame.Virtual(of(api.KindPlane), at(api.Position, 50))
	expect(t, "Virtual of a plane", results(virtual, e), results(0, api.ErrState))
	for _, x := range []struct{ kind, tol, want int }{{api.KindHole, 100000, -99000}, {api.KindHole, 0, 1000}, {api.KindPin, 0, 1011}, {api.KindPin, 100000, 101011}} {
		virtual, e := frame.Virtual(of(x.kind), with(at(api.Straight, x.tol), api.Maximum))
		expect(t, fmt.Sprint("Virtual ", x), results(virtual, e), results(x.want, api.OK))
	}
}

// P19.2: frames are the same with nil and with empty lists, and differ by any part.
func TestSame(t *testing.T) {
	whole := func() api.Frame { return with(round(at(api.Position, 50, "A", "B")), api.Maximum) }
	same := func(what string, a, b api.Frame, want bool) {
		t.Helper()
		expect(t, what, results(frame.Same(a, b), frame.Same(b, a)), results(want, want))
	}
	same("whole", whole(), whole(), true)
	same("zero", none, none, true)
	same("empty", none, api.Frame{Datums: []api.Datum{}}, true)
	same("zero", whole(), none, false)
	for i, change := range []func(x *api.Frame){
		func(x *api.Frame) { x.Kind-- }, func(x *api.Frame) { x.Disc = false }, func(x *api.Frame) { x.Tol++ }, func(x *api.Frame) { x.Material++ },
		func(x *api.Frame) { x.Datums = nil }, func(x *api.Frame) { x.Datums = x.Datums[:1] }, func(x *api.Frame) { x.Datums = append(x.Datums, api.Datum{}) }, func(x *api.Frame) { slices.Reverse(x.Datums) },
		func(x *api.Frame) { x.Datums[0].Name = "C" }, func(x *api.Frame) { x.Datums[1].Material = 1 },
	} {
		x := whole()
		change(&x)
		same(fmt.Sprint("change ", i), x, whole(), false)
		same(fmt.Sprint("change ", i), x, x, true)
	}
	for _, x := range textless {
		same("textless", x.x, x.x, true)
		same("textless", x.x, whole(), false)
	}
}

// P19.3: the bonus, and the virtual condition of all sizes.
func TestSizes(t *testing.T) {
	for kind := api.KindHole; kind <= api.KindBall; kind++ {
		for _, tol := range []int{0, 1, 50, 100000} {
			f, x := of(kind), with(at(api.Position, tol), api.Maximum)
			virtual, _ := frame.Virtual(f, x)
			inner, _ := feature.Inner(f)
			for size := f.Size.Low; size <= f.Size.High; size++ {
				bonus, e := frame.Bonus(f, x, size)
				far := size + tol + bonus
				if inner {
					far = size - tol - bonus
				}
				expect(t, fmt.Sprint(kind, tol, size), results(e, far, bonus >= 0 && bonus <= 11), results(api.OK, virtual, true))
			}
		}
	}
}

// P19.3: the order of frames does not matter.
func TestOrder(t *testing.T) {
	frames := []api.Frame{at(api.Straight, 1), at(api.Square, 1, "A"), at(api.Position, 1, "A", "C"), at(api.Runout, 1, "B"), at(api.Round, 1)}
	for i := range frames {
		for _, change := range []int{-1, 0, 3} {
			l := append(slices.Clone(frames[i:]), frames[:i]...)
			want := api.OK
			if change >= 0 {
				l[change].Tol, want = 0, api.ErrZero
			}
			a, b := of(api.KindPin, l...), of(api.KindPin, slices.Clone(l)...)
			slices.Reverse(b.Frames)
			expect(t, fmt.Sprintf("%+v", l), results(frame.All(a), frame.All(b)), results(want, want))
		}
	}
}
