package hullspace_test

import (
	"fmt"
	"math"
	"math/rand"
	"reflect"
	"slices"
	"testing"

	"metrolab/api"
	"metrolab/hullspace"
)

// first are the points of the document's example, with one inside.
var first = []api.Spot{s(0, 0, 0), s(4, 0, 0), s(0, 4, 0), s(0, 0, 4), s(1, 1, 1)}

// expect compares results; nil and empty slices are printed alike.
func expect(t *testing.T, what string, input any, got, want []any) {
	t.Helper()
	if g, w := fmt.Sprint(got...), fmt.Sprint(want...); g != w {
		t.Errorf("%s(%v): %s instead of %s", what, input, g, w)
	}
}

// function is one with points, and the errors that it has for no points, for one, and for four that are not coplanar.
type function struct {
	name           string
	none, one, all api.Errno
	call           func(l []api.Spot) ([]any, api.Errno)
}

func functions() []function {
	inside := func(p api.Spot) func(l []api.Spot) ([]any, api.Errno) {
		return func(l []api.Spot) ([]any, api.Errno) { x, e := hullspace.Inside(l, p); return []any{x}, e }
	}
	support := func(d [3]int) func(l []api.Spot) ([]any, api.Errno) {
		return func(l []api.Spot) ([]any, api.Errno) { n, x, e := hullspace.Support(l, d); return []any{n, x}, e }
	}
	return []function{
		{"Dimension", api.OK, api.OK, api.OK, func(l []api.Spot) ([]any, api.Errno) { x, e := hullspace.Dimension(l); return []any{x}, e }},
		{"Inside", api.OK, api.OK, api.OK, inside(s(1, 1, 1))},
		{"Inside 100000", api.OK, api.OK, api.OK, inside(s(100000, -100000, 100000))},
		{"Inside x", api.ErrRange, api.ErrRange, api.ErrRange, inside(s(100001, 0, 0))},
		{"Inside y", api.ErrRange, api.ErrRange, api.ErrRange, inside(s(0, -100001, 0))},
		{"Inside z", api.ErrRange, api.ErrRange, api.ErrRange, inside(s(0, 0, math.MinInt))},
		{"Vertices", api.OK, api.OK, api.OK, func(l []api.Spot) ([]any, api.Errno) { x, e := hullspace.Vertices(l); return []any{x}, e }},
		{"Support", api.ErrEmpty, api.OK, api.OK, support([3]int{1, 0, 0})},
		{"Support 100000", api.ErrEmpty, api.OK, api.OK, support([3]int{-100000, 100000, -100000})},
		{"Support 0", api.ErrZero, api.ErrZero, api.ErrZero, support([3]int{})},
		{"Support x", api.ErrRange, api.ErrRange, api.ErrRange, support([3]int{100001, 0, 0})},
		{"Support y", api.ErrRange, api.ErrRange, api.ErrRange, support([3]int{0, math.MaxInt, 0})},
		{"Support z", api.ErrRange, api.ErrRange, api.ErrRange, support([3]int{0, 0, -100001})},
		{"Facets", api.ErrState, api.ErrState, api.OK, func(l []api.Spot) ([]any, api.Errno) { x, e := hullspace.Facets(l); return []any{x}, e }},
		{"Edges", api.ErrState, api.ErrState, api.OK, func(l []api.Spot) ([]any, api.Errno) { x, e := hullspace.Edges(l); return []any{x}, e }},
	}
}

// P9.1 and P9.2

func TestErrors(t *testing.T) {
	for _, f := range functions() {
		check := func(l []api.Spot, error api.Errno) {
			t.Helper()
			results, e := f.call(l)
			if e != error {
				t.Errorf("%s(%v): error %d instead of %d", f.name, l, e, error)
			}
			for _, x := range results {
				if e != api.OK && !reflect.ValueOf(x).IsZero() {
					t.Errorf("%s(%v): %v beside the error %d", f.name, l, x, e)
				}
			}
		}
		check(nil, f.none)
		check([]api.Spot{}, f.none)
		check([]api.Spot{s(100000, -100000, 100000)}, f.one)
		check(first[:4], f.all)
		check(append(make([]api.Spot, 60), first[:4]...), f.all)
		check(make([]api.Spot, 65), api.ErrMany)
		check(append([]api.Spot{s(100001, 0, 0)}, make([]api.Spot, 64)...), api.ErrMany)
		for _, p := range []api.Spot{s(100001, 0, 0), s(0, -100001, 0), s(0, 0, 100001), s(math.MinInt, 0, 0), s(0, math.MaxInt, 0), s(0, 0, 1<<32)} {
			for at := range first {
				check(slices.Insert(slices.Clone(first), at, p), api.ErrRange)
			}
			check([]api.Spot{p}, api.ErrRange)
		}
	}
}

// Facets and Edges need points that are not in one plane.
func TestState(t *testing.T) {
	for _, l := range [][]api.Spot{first[:3], {s(0, 0, 0), s(2, 2, 2), s(1, 1, 1)}, {s(1, 1, 5), s(2, 7, 5), s(3, 3, 5), s(-9, 4, 5)}, {s(1, 2, 3), s(1, 2, 3), s(1, 2, 3), s(1, 2, 3)}, {s(1, 0, 0), s(0, 1, 0), s(0, 0, 1), s(-1, 1, 1)}} {
		f, e := hullspace.Facets(l)
		g, d := hullspace.Edges(l)
		expect(t, "Facets and Edges", l, []any{f, e, g, d}, []any{[]int{}, api.ErrState, []int{}, api.ErrState})
	}
}

// P9.1

func TestExamples(t *testing.T) {
	for _, x := range []struct {
		l []api.Spot
		n int
	}{{nil, -1}, {first[:1], 0}, {[]api.Spot{s(3, 3, 3), s(3, 3, 3)}, 0}, {first[:2], 1}, {[]api.Spot{s(0, 0, 0), s(2, 2, 2), s(1, 1, 1)}, 1}, {first[:3], 2}, {first[:4], 3}, {first, 3}} {
		n, e := hullspace.Dimension(x.l)
		expect(t, "Dimension", x.l, []any{n, e}, []any{x.n, api.OK})
	}
	for _, x := range []struct {
		direction [3]int
		most      int
		at        []int
	}{{[3]int{1, 1, 0}, 4, []int{1, 2}}, {[3]int{0, 0, -1}, 0, []int{0, 1, 2}}, {[3]int{-1, -1, -1}, 0, []int{0}}, {[3]int{1, 1, 1}, 4, []int{1, 2, 3}}, {[3]int{2, 2, 0}, 8, []int{1, 2}}, {[3]int{100000, 0, 1}, 400000, []int{1}}} {
		most, at, e := hullspace.Support(first, x.direction)
		expect(t, "Support", x.direction, []any{most, at, e}, []any{x.most, x.at, api.OK})
	}
	most, at, e := hullspace.Support([]api.Spot{s(-100000, 100000, -100000)}, [3]int{100000, -100000, 100000})
	expect(t, "Support", "a point far away", []any{most, at, e}, []any{-30000000000, []int{0}, api.OK})
	for p, want := range map[api.Spot]bool{s(0, 0, 0): true, s(1, 1, 1): true, s(2, 1, 1): true, s(2, 2, 1): false, s(0, 2, 2): true, s(-1, 0, 0): false, s(4, 0, 0): true, s(5, 0, 0): false} {
		in, e := hullspace.Inside(first, p)
		expect(t, "Inside", p, []any{in, e}, []any{want, api.OK})
	}
}

func TestRandom(t *testing.T) {
	r := rand.New(rand.NewSource(9))
	for range 300 {
		l := cloud(r, r.Intn(8))
		n, e := hullspace.Dimension(l)
		expect(t, "Dimension", l, []any{n, e}, []any{dimension(l), api.OK})
		for range 3 {
			p := cloud(r, 1)[0]
			if len(l) > 1 && r.Intn(3) > 0 {
				a, b := l[r.Intn(len(l))], l[r.Intn(len(l))]
				p = s(a.X+(b.X-a.X)/2, a.Y+(b.Y-a.Y)/2, a.Z+(b.Z-a.Z)/2)
			}
			in, e := hullspace.Inside(l, p)
			expect(t, "Inside", []any{l, p}, []any{in, e}, []any{inside(l, p), api.OK})
		}
	}
}

func TestSupport(t *testing.T) {
	r := rand.New(rand.NewSource(10))
	for range 2000 {
		l := cloud(r, 1+r.Intn(20))
		var direction [3]int
		for direction == [3]int{} {
			d := cloud(r, 1)[0]
			direction = [3]int{d.X, d.Y, d.Z}
		}
		var products []int
		for _, p := range l {
			products = append(products, product(direction, p))
		}
		var want []int
		for i, n := range products {
			if n == slices.Max(products) {
				want = append(want, i)
			}
		}
		most, at, e := hullspace.Support(l, direction)
		expect(t, "Support", []any{l, direction}, []any{most, at, e}, []any{slices.Max(products), want, api.OK})
	}
}

// P9.2

func TestHulls(t *testing.T) {
	cube := []api.Spot{s(1, 1, 1), s(-1, -1, -1), s(-1, 1, 1), s(1, -1, 1), s(-1, -1, 1), s(1, 1, -1), s(1, -1, -1), s(-1, 1, -1)}
	side := func(x, y, z, most int, spots ...int) hullspace.Facet {
		return hullspace.Facet{Normal: [3]int{x, y, z}, Most: most, Spots: spots}
	}
	for _, x := range []struct {
		name     string
		l        []api.Spot
		vertices []int
		edges    [][2]int
		facets   []hullspace.Facet
	}{
		{"a tetrahedron with a point inside", first, []int{0, 1, 2, 3}, [][2]int{{0, 1}, {0, 2}, {0, 3}, {1, 2}, {1, 3}, {2, 3}}, []hullspace.Facet{side(-1, 0, 0, 0, 0, 2, 3), side(0, -1, 0, 0, 0, 1, 3), side(0, 0, -1, 0, 0, 1, 2), side(1, 1, 1, 4, 1, 2, 3)}},
		{"a cube", cube, []int{0, 1, 2, 3, 4, 5, 6, 7}, [][2]int{{0, 2}, {0, 3}, {0, 5}, {1, 4}, {1, 6}, {1, 7}, {2, 4}, {2, 7}, {3, 4}, {3, 6}, {5, 6}, {5, 7}}, []hullspace.Facet{side(-1, 0, 0, 1, 1, 2, 4, 7), side(0, -1, 0, 1, 1, 3, 4, 6), side(0, 0, -1, 1, 1, 5, 6, 7), side(0, 0, 1, 1, 0, 2, 3, 4), side(0, 1, 0, 1, 0, 2, 5, 7), side(1, 0, 0, 1, 0, 3, 5, 6)}},
		{"double points, and points on an edge and a facet", []api.Spot{s(0, 0, 0), s(0, 0, 0), s(6, 0, 0), s(0, 6, 0), s(0, 0, 6), s(2, 2, 2), s(3, 3, 0), s(6, 0, 0)}, []int{0, 2, 3, 4}, [][2]int{{0, 2}, {0, 3}, {0, 4}, {2, 3}, {2, 4}, {3, 4}}, []hullspace.Facet{side(-1, 0, 0, 0, 0, 1, 3, 4), side(0, -1, 0, 0, 0, 1, 2, 4, 7), side(0, 0, -1, 0, 0, 1, 2, 3, 6, 7), side(1, 1, 1, 6, 2, 3, 4, 5, 6, 7)}},
	} {
		vertices, e := hullspace.Vertices(x.l)
		edges, d := hullspace.Edges(x.l)
		facets, c := hullspace.Facets(x.l)
		expect(t, "hull", x.name, []any{vertices, e, edges, d, facets, c}, []any{x.vertices, api.OK, x.edges, api.OK, x.facets, api.OK})
	}
}

// Points of a lesser dimension have vertices, whatever plane or line they are in.
func TestFlatVertices(t *testing.T) {
	for _, x := range []struct {
		l    []api.Spot
		want []int
	}{{nil, nil}, {[]api.Spot{s(5, 5, 5)}, []int{0}}, {[]api.Spot{s(5, 5, 5), s(5, 5, 5)}, []int{0}}, {[]api.Spot{s(0, 0, 0), s(2, 2, 2), s(1, 1, 1)}, []int{0, 1}}, {[]api.Spot{s(1, 0, 0), s(2, 0, 0), s(0, 0, 0), s(2, 0, 0)}, []int{1, 2}}, {[]api.Spot{s(7, 1, 7), s(7, 2, 7), s(7, 0, 7)}, []int{1, 2}}, {[]api.Spot{s(0, 0, 3), s(0, 0, 2), s(0, 0, 1)}, []int{0, 2}}, {[]api.Spot{s(1, 0, 0), s(1, 2, 0), s(1, 0, 2), s(1, 2, 2), s(1, 1, 1)}, []int{0, 1, 2, 3}}, {[]api.Spot{s(0, 1, 0), s(2, 1, 0), s(0, 1, 2), s(2, 1, 2), s(1, 1, 1)}, []int{0, 1, 2, 3}}, {[]api.Spot{s(1, 1, 4), s(0, 0, 4), s(2, 0, 4), s(0, 2, 4), s(2, 2, 4)}, []int{1, 2, 3, 4}}, {[]api.Spot{s(0, 0, 0), s(1, 1, 5), s(2, 2, 0), s(1, 1, 1)}, []int{0, 1, 2}}} {
		vertices, e := hullspace.Vertices(x.l)
		expect(t, "Vertices", x.l, []any{vertices, e}, []any{x.want, api.OK})
	}
}

func TestRandomHulls(t *testing.T) {
	r := rand.New(rand.NewSource(11))
	for range 300 {
		l := cloud(r, r.Intn(9))
		got, e := hullspace.Vertices(l)
		expect(t, "Vertices", l, []any{got, e}, []any{vertices(l), api.OK})
		if dimension(l) < 3 {
			continue
		}
		sides, e := hullspace.Facets(l)
		expect(t, "Facets", l, []any{sides, e}, []any{facets(l), api.OK})
		pairs, e := hullspace.Edges(l)
		expect(t, "Edges", l, []any{pairs, e}, []any{edges(l), api.OK})
	}
}

// The greatest numbers that occur fit.
func TestFar(t *testing.T) {
	const m = api.MaxCoord
	l := []api.Spot{s(m, m, -m), s(-m, m, m), s(m, -m, m), s(-m, -m, -m), s(m-1, m, 2-m), s(1-m, 3, m), s(m, 1-m, m-5), s(-m, -m, 1-m)}
	sides, e := hullspace.Facets(l)
	expect(t, "Facets", l, []any{sides, e}, []any{facets(l), api.OK})
	widest := 0
	for _, f := range sides {
		widest = max(widest, slices.Max(f.Normal[:]), f.Most)
	}
	if widest < 1e15 {
		t.Errorf("the numbers are not great: %v", sides)
	}
}

func TestSame(t *testing.T) {
	a := hullspace.Facet{Normal: [3]int{1, 2, 3}, Most: 4, Spots: []int{5, 6, 7}}
	change := func(f func(*hullspace.Facet)) hullspace.Facet {
		b := a
		b.Spots = slices.Clone(a.Spots)
		f(&b)
		return b
	}
	for i, x := range []struct {
		a, b hullspace.Facet
		same bool
	}{
		{a, a, true}, {a, change(func(*hullspace.Facet) {}), true}, {hullspace.Facet{}, hullspace.Facet{}, true}, {hullspace.Facet{}, hullspace.Facet{Spots: []int{}}, true},
		{a, change(func(f *hullspace.Facet) { f.Normal[0]++ }), false}, {a, change(func(f *hullspace.Facet) { f.Normal[1] = math.MinInt }), false}, {a, change(func(f *hullspace.Facet) { f.Normal[2]-- }), false},
		{a, change(func(f *hullspace.Facet) { f.Most = math.MinInt }), false}, {a, change(func(f *hullspace.Facet) { f.Spots[2] = -8 }), false}, {a, change(func(f *hullspace.Facet) { f.Spots = f.Spots[:2] }), false}, {a, change(func(f *hullspace.Facet) { f.Spots = nil }), false},
		{a, change(func(f *hullspace.Facet) { f.Spots = []int{5, 7, 6} }), false},
	} {
		if hullspace.Same(x.a, x.b) != x.same || hullspace.Same(x.b, x.a) != x.same {
			t.Errorf("Same %d of %v and %v is not %v", i, x.a, x.b, x.same)
		}
	}
}

// Arguments and their spare capacity do not change, and the parts of results share no memory.
func TestMemory(t *testing.T) {
	spare := slices.Clone(first)
	for _, f := range functions() {
		if _, e := f.call(spare[:4]); e != f.all || !slices.Equal(spare, first) {
			t.Errorf("%s: error %d, %v", f.name, e, spare)
		}
	}
	sides, _ := hullspace.Facets(first)
	for i := range sides {
		clear(sides[i].Spots[:cap(sides[i].Spots)])
		again, _ := hullspace.Facets(first)
		for j := i + 1; j < len(sides); j++ {
			if !hullspace.Same(sides[j], again[j]) {
				t.Fatalf("facet %d changes with facet %d", j, i)
			}
		}
	}
}

// P9.3

// solids are points of dimension 3, also as many as are permitted.
func solids() [][]api.Spot {
	r := rand.New(rand.NewSource(12))
	var found [][]api.Spot
	for len(found) < 60 {
		if l := cloud(r, 4+r.Intn(61)); dimension(l) == 3 {
			found = append(found, l)
		}
	}
	var round, grid []api.Spot
	for i := range 64 {
		x, y := i%8-4, i/8-4
		round = append(round, s(x, y, x*x+y*y))
		grid = append(grid, s(i%4, i/4%4, i/16))
	}
	return append(found, round, grid)
}

func hullOf(t *testing.T, l []api.Spot) ([]int, [][2]int, []hullspace.Facet) {
	t.Helper()
	vertices, a := hullspace.Vertices(l)
	edges, b := hullspace.Edges(l)
	facets, c := hullspace.Facets(l)
	if a != api.OK || b != api.OK || c != api.OK {
		t.Fatalf("%v: errors %d, %d, %d", l, a, b, c)
	}
	return vertices, edges, facets
}

func TestCounts(t *testing.T) {
	for _, l := range solids() {
		vertices, edges, facets := hullOf(t, l)
		if len(vertices)+len(facets) != len(edges)+2 || len(vertices) < 4 {
			t.Errorf("%v: %d vertices, %d facets, %d edges", l, len(vertices), len(facets), len(edges))
		}
	}
}

func TestHullOfVertices(t *testing.T) {
	for _, l := range solids() {
		vertices, edges, facets := hullOf(t, l)
		var corners []api.Spot
		for _, i := range vertices {
			corners = append(corners, l[i])
		}
		less, fewer, planes := hullOf(t, corners)
		if len(less) != len(vertices) || len(fewer) != len(edges) || len(planes) != len(facets) {
			t.Fatalf("%v: the hull of the vertices is different", l)
		}
		for i, f := range planes {
			var spots []int
			for _, j := range facets[i].Spots {
				if k := slices.Index(vertices, j); k >= 0 {
					spots = append(spots, k)
				}
			}
			if !hullspace.Same(f, hullspace.Facet{Normal: facets[i].Normal, Most: facets[i].Most, Spots: spots}) {
				t.Errorf("%v: the vertices have the facet %v instead of %v", l, f, facets[i])
			}
		}
	}
}

func TestSides(t *testing.T) {
	r := rand.New(rand.NewSource(13))
	for _, l := range solids() {
		_, _, facets := hullOf(t, l)
		for range 20 {
			p, a, b := cloud(r, 1)[0], l[r.Intn(len(l))], l[r.Intn(len(l))]
			if r.Intn(2) == 0 {
				p = s((a.X+b.X)/2, (a.Y+b.Y)/2, (a.Z+b.Z)/2)
			}
			outside := slices.ContainsFunc(facets, func(f hullspace.Facet) bool { return product(f.Normal, p) > f.Most })
			if in, e := hullspace.Inside(l, p); in == outside || e != api.OK {
				t.Errorf("Inside(%v, %v): %v, error %d", l, p, in, e)
			}
		}
		own := l[r.Intn(len(l))]
		if in, e := hullspace.Inside(l, own); !in || e != api.OK {
			t.Errorf("Inside(%v, %v): %v, error %d", l, own, in, e)
		}
	}
}

func TestMoved(t *testing.T) {
	for _, l := range solids() {
		const far = api.MaxCoord - 1000
		if slices.ContainsFunc(l, func(p api.Spot) bool { return max(p.X, -p.X, p.Y, -p.Y, p.Z, -p.Z) > 1000 }) {
			continue
		}
		move := s(far, -far, 77)
		var moved []api.Spot
		for _, p := range l {
			moved = append(moved, s(p.X+move.X, p.Y+move.Y, p.Z+move.Z))
		}
		vertices, edges, facets := hullOf(t, l)
		for i := range facets {
			facets[i].Most += product(facets[i].Normal, move)
		}
		a, b, c := hullOf(t, moved)
		expect(t, "moved", l, []any{a, b, c}, []any{vertices, edges, facets})
	}
}
