package drawing_test

import (
	"fmt"
	"slices"
	"strings"
	"testing"

	"metrolab/api"
	"metrolab/drawing"
)

// P20.2

func TestAdd(t *testing.T) {
	for i, name := range []string{"A1", "F", "K", "R", "Z"} {
		f := sized(name, api.KindPin, 1, 3, to("A", "H"))
		want := plate()
		want.Features = slices.Insert(want.Features, i+1, f)
		d, e := drawing.Add(plate(), f)
		expect(t, "Add "+name, results(d, e), results(want, api.OK))
	}
	d, e := drawing.Add(api.Drawing{Name: "D"}, plane("A", 0))
	expect(t, "Add to none", results(d, e), results(api.Drawing{Name: "D", Features: []api.Feature{plane("A", 0)}}, api.OK))
}

// P20.2: what cannot be added.
func TestAddErrors(t *testing.T) {
	alike := to("Q")
	alike.Datums[0].Material = api.Maximum
	onPlane := to("B")
	onPlane.Datums[0].Material = api.Least
	for _, x := range []struct {
		what string
		d    api.Drawing
		f    api.Feature
		e    api.Errno
	}{
		{"twice", plate(), plate().Features[2], api.ErrTwice},
		{"twice and wrong", plate(), api.Feature{Name: "Q", Kind: 9}, api.ErrTwice},
		{"twice and many", many(32), plane("FAA", 0), api.ErrTwice},
		{"many", many(32), plane("A", 0), api.ErrMany},
		{"many and wrong", many(32), nothing, api.ErrMany},
		{"no name", plate(), nothing, api.ErrForm},
		{"no name before the first one", plate(), plane("0", 0), api.ErrForm},
		{"a long name", plate(), plane(strings.Repeat("x", 25), 0), api.ErrLong},
		{"wrong", plate(), api.Feature{Name: "C", Kind: 9}, api.ErrArg},
		{"frame", plate(), plane("C", 0, api.Frame{Kind: api.Round, Tol: 1}), api.ErrState},
		{"itself", plate(), plane("C", 0, to("C")), api.ErrTwice},
		{"no datum", plate(), plane("C", 0, to("D")), api.ErrNone},
		{"a plane with a material condition", plate(), plane("C", 0, onPlane), api.ErrForm},
		{"a ball with a material condition", plate(), plane("C", 0, alike), api.OK},
		{"31", many(31), plane("Z", 0, to("FAA", "FBC")), api.OK},
	} {
		d, e := drawing.Add(x.d, x.f)
		if x.e == api.OK {
			d = none
		}
		expect(t, x.what, results(d, e), results(none, x.e))
	}
}

func TestRemove(t *testing.T) {
	d := plate()
	for _, name := range []string{"A", "B", "H", "Q", "S"} {
		less, e := drawing.Remove(d, name)
		expect(t, "Remove "+name, results(less, e), results(none, api.ErrState))
	}
	d.Dimensions = d.Dimensions[:1]
	for i, name := range []string{"A", "B", "H", "Q", "S"} {
		less, e := drawing.Remove(d, name)
		want := plate()
		want.Dimensions = want.Dimensions[:1]
		want.Features = slices.Delete(want.Features, i, i+1)
		if i < 3 {
			expect(t, "Remove a datum", results(less, e), results(none, api.ErrState))
		} else {
			expect(t, "Remove "+name, results(less, e), results(want, api.OK))
		}
	}
	// B is in no frame any more, but in a dimension, at one end or at the other one.
	d = api.Drawing{Name: "D", Features: []api.Feature{plane("A", 0), plane("B", 1)}, Dimensions: []api.Dimension{between("A", "B", 0, 1, 1)}}
	for _, name := range []string{"A", "B"} {
		less, e := drawing.Remove(d, name)
		expect(t, "Remove "+name, results(less, e), results(none, api.ErrState))
	}
	d.Dimensions = nil
	less, e := drawing.Remove(d, "A")
	expect(t, "Remove the first one", results(less, e), results(api.Drawing{Name: "D", Features: []api.Feature{plane("B", 1)}}, api.OK))
	less, e = drawing.Remove(less, "B")
	expect(t, "Remove the last one", results(less, e), results(api.Drawing{Name: "D"}, api.OK))
}

// P20.3: to add a feature and to remove it changes nothing; and the other way round.
func TestThereAndBack(t *testing.T) {
	for _, name := range []string{"A1", "M", "Z", "a"} {
		more, e := drawing.Add(plate(), sized(name, api.KindHole, 0, 9, to("S", "Q")))
		back, g := drawing.Remove(more, name)
		expect(t, "back "+name, results(e, back, g), results(api.OK, plate(), api.OK))
	}
	d := plate()
	d.Dimensions = nil
	for _, f := range []int{3, 4} {
		less, e := drawing.Remove(d, d.Features[f].Name)
		again, g := drawing.Add(less, d.Features[f])
		expect(t, fmt.Sprint("again ", f), results(e, again, g), results(api.OK, d, api.OK))
	}
}

// spare returns the plate with an element behind the end of each list.
func spare() api.Drawing {
	d := plate()
	d.Features = append(d.Features, plane("Spare", 77))[:5]
	d.Dimensions = append(d.Dimensions, between("Spare", "Spare", 77, 7, 7))[:6]
	for i := range d.Features {
		f := &d.Features[i]
		n := len(f.Frames)
		f.Frames = append(f.Frames, to("Spare"))[:n]
		for j := range f.Frames {
			n := len(f.Frames[j].Datums)
			f.Frames[j].Datums = append(f.Frames[j].Datums, api.Datum{Name: "Spare"})[:n]
		}
	}
	return d
}

// whole prints a drawing with what is behind the end of each list.
func whole(d api.Drawing) string {
	text := fmt.Sprintf("%+v %+v", d.Features[:6], d.Dimensions[:7])
	for _, f := range d.Features {
		text += fmt.Sprintf("%+v", f.Frames[:len(f.Frames)+1])
		for _, x := range f.Frames {
			text += fmt.Sprintf("%+v", x.Datums[:len(x.Datums)+1])
		}
	}
	return text
}

// spoil changes everything in the memory of a drawing.
func spoil(d api.Drawing) {
	for _, f := range d.Features {
		for _, x := range f.Frames {
			clear(x.Datums[:cap(x.Datums)])
		}
		clear(f.Frames[:cap(f.Frames)])
	}
	clear(d.Features[:cap(d.Features)])
	clear(d.Dimensions[:cap(d.Dimensions)])
}

// P20.1 and P20.2: arguments remain as they are, and results share no memory with them or with each other.
func TestMemory(t *testing.T) {
	added := sized("Z", api.KindPin, 1, 3, to("A", "H"), api.Frame{Kind: api.Round, Tol: 1})
	for what, change := range map[string]func(d api.Drawing) api.Drawing{
		"Add": func(d api.Drawing) api.Drawing { d, _ = drawing.Add(d, added); return d },
		"Remove": func(d api.Drawing) api.Drawing {
			d.Dimensions = d.Dimensions[:1]
			d, _ = drawing.Remove(d, "Q")
			return d
		},
		"Find": func(d api.Drawing) api.Drawing {
			f, _ := drawing.Find(d, "S")
			return api.Drawing{Features: []api.Feature{f}}
		},
	} {
		d := spare()
		before := whole(d)
		one, two := change(d), change(d)
		text := fmt.Sprintf("%+v", one)
		spoil(two)
		if whole(d) != before || fmt.Sprintf("%+v", one) != text {
			t.Errorf("%s: the argument or another result is changed", what)
		}
		spoil(d)
		expect(t, what, results(one), results(change(spare())))
	}
	expect(t, "what was added", results(added), results(sized("Z", api.KindPin, 1, 3, to("A", "H"), api.Frame{Kind: api.Round, Tol: 1})))
	d := spare()
	before := whole(d)
	for range 2 {
		names, _ := drawing.Datums(d)
		more, _ := drawing.Depends(d, "S")
		expect(t, "names", results(names, more), results([]string{"A", "B", "H"}, []string{"A", "B", "H"}))
		clear(names)
		clear(more)
	}
	expect(t, "the drawing", results(whole(d)), results(before))
}
