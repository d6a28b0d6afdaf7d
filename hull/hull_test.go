package hull_test

import (
	"fmt"
	"math"
	"math/rand"
	"reflect"
	"slices"
	"testing"

	"metrolab/api"
	"metrolab/hull"
)

var table = []api.Point{p(0, 0), p(4, 0), p(2, 1), p(4, 4), p(0, 4), p(2, 0)}

// expect compares results; nil and empty slices are printed alike.
func expect(t *testing.T, what string, input any, got, want []any) {
	t.Helper()
	if g, w := fmt.Sprint(got...), fmt.Sprint(want...); g != w {
		t.Errorf("%s(%v): %s instead of %s", what, input, g, w)
	}
}

// withList are the functions with one list, with the error that they have for no points, and for one.
var withList = []struct {
	name     string
	none, of api.Errno
	call     func(l []api.Point) ([]any, api.Errno)
}{
	{"Hull", api.ErrEmpty, api.OK, func(l []api.Point) ([]any, api.Errno) { x, e := hull.Hull(l); return []any{x}, e }},
	{"Locate", api.ErrEmpty, api.OK, func(l []api.Point) ([]any, api.Errno) { x, e := hull.Locate(l, p(1, 1)); return []any{x}, e }},
	{"Locate beyond", api.ErrRange, api.ErrRange, func(l []api.Point) ([]any, api.Errno) { x, e := hull.Locate(l, p(0, 100001)); return []any{x}, e }},
	{"Extreme", api.ErrEmpty, api.OK, func(l []api.Point) ([]any, api.Errno) { x, e := hull.Extreme(l, p(1, 0)); return []any{x}, e }},
	{"Extreme beyond", api.ErrRange, api.ErrRange, func(l []api.Point) ([]any, api.Errno) { x, e := hull.Extreme(l, p(-100001, 0)); return []any{x}, e }},
	{"Extreme along 0", api.ErrEmpty, api.ErrZero, func(l []api.Point) ([]any, api.Errno) { x, e := hull.Extreme(l, p(0, 0)); return []any{x}, e }},
	{"Antipodal", api.OK, api.OK, func(l []api.Point) ([]any, api.Errno) { x, e := hull.Antipodal(l); return []any{x}, e }},
	{"Farthest", api.ErrEmpty, api.ErrEmpty, func(l []api.Point) ([]any, api.Errno) { x, y, e := hull.Farthest(l); return []any{x, y}, e }},
	{"Area", api.OK, api.OK, func(l []api.Point) ([]any, api.Errno) { x, e := hull.Area(l); return []any{x}, e }},
	{"Convex", api.OK, api.OK, func(l []api.Point) ([]any, api.Errno) { x, e := hull.Convex(l); return []any{x}, e }},
	{"Separated before", api.ErrEmpty, api.OK, func(l []api.Point) ([]any, api.Errno) {
		x, d, n, e := hull.Separated(l, []api.Point{p(9, 9)})
		return []any{x, d, n}, e
	}},
	{"Separated behind", api.ErrEmpty, api.OK, func(l []api.Point) ([]any, api.Errno) {
		x, d, n, e := hull.Separated([]api.Point{p(9, 9)}, l)
		return []any{x, d, n}, e
	}},
	{"Separated before none", api.ErrEmpty, api.ErrEmpty, func(l []api.Point) ([]any, api.Errno) {
		x, d, n, e := hull.Separated(l, nil)
		return []any{x, d, n}, e
	}},
	{"Separated behind none", api.ErrEmpty, api.ErrEmpty, func(l []api.Point) ([]any, api.Errno) {
		x, d, n, e := hull.Separated(nil, l)
		return []any{x, d, n}, e
	}},
}

// beyond are points that are not right.
var beyond = []api.Point{p(100001, 0), p(0, -100001), p(math.MinInt, 0), p(0, math.MaxInt), p(1<<32, 1<<32)}

// P8.1 and P8.2

func TestErrors(t *testing.T) {
	for _, f := range withList {
		check := func(l []api.Point, error api.Errno) {
			t.Helper()
			results, e := f.call(l)
			if e != error {
				t.Errorf("%s(%v): error %d instead of %d", f.name, l, e, error)
			}
			for _, x := range results {
				if e != api.OK && !reflect.ValueOf(x).IsZero() {
					t.Errorf("%s(%v): %v beside the error %d", f.name, l, x, e)
				}
			}
		}
		check(nil, f.none)
		check([]api.Point{}, f.none)
		check([]api.Point{p(100000, -100000)}, f.of)
		check(make([]api.Point, 65), api.ErrMany)
		for _, wrong := range beyond {
			check([]api.Point{wrong}, api.ErrRange)
			check([]api.Point{p(0, 0), p(1, 0), p(0, 1), wrong}, api.ErrRange)
			check(append(make([]api.Point, 64), wrong), api.ErrMany)
		}
	}
}

func TestErrorsOfOthers(t *testing.T) {
	for _, wrong := range beyond {
		for _, l := range [][]api.Point{nil, table} {
			place, e := hull.Locate(l, wrong)
			expect(t, "Locate", wrong, []any{place, e}, []any{0, api.ErrRange})
			indices, e := hull.Extreme(l, wrong)
			expect(t, "Extreme", wrong, []any{indices, e}, []any{[]int{}, api.ErrRange})
		}
		one, many := []api.Point{wrong}, make([]api.Point, 65)
		for _, x := range []struct {
			a, b []api.Point
			e    api.Errno
		}{{one, many, api.ErrRange}, {many, one, api.ErrMany}, {table, one, api.ErrRange}, {one, table, api.ErrRange}, {nil, one, api.ErrRange}, {one, nil, api.ErrRange}, {nil, many, api.ErrMany}, {nil, nil, api.ErrEmpty}} {
			ok, d, n, e := hull.Separated(x.a, x.b)
			expect(t, "Separated", x, []any{ok, d, n, e}, []any{false, p(0, 0), 0, x.e})
		}
	}
}

func TestExamples(t *testing.T) {
	corners, e := hull.Hull(table)
	expect(t, "Hull", table, []any{corners, e}, []any{[]int{0, 1, 3, 4}, api.OK})
	for _, x := range []struct {
		q     api.Point
		place int
	}{{p(2, 1), 1}, {p(2, 0), 0}, {p(5, 5), -1}, {p(0, 0), 0}, {p(4, 4), 0}, {p(4, 1), 0}, {p(4, 5), -1}, {p(5, 0), -1}, {p(-1, 0), -1}, {p(1, 1), 1}} {
		place, e := hull.Locate(table, x.q)
		expect(t, "Locate", x.q, []any{place, e}, []any{x.place, api.OK})
	}
	area, e := hull.Area(table)
	expect(t, "Area", table, []any{area, e}, []any{32, api.OK})
	indices, e := hull.Extreme(table, p(1, 0))
	expect(t, "Extreme", table, []any{indices, e}, []any{[]int{1, 3}, api.OK})
	pairs, e := hull.Antipodal(table)
	expect(t, "Antipodal", table, []any{pairs, e}, []any{[][2]int{{0, 1}, {0, 3}, {0, 4}, {1, 3}, {1, 4}, {3, 4}}, api.OK})
	square, pair, e := hull.Farthest(table)
	expect(t, "Farthest", table, []any{square, pair, e}, []any{32, [2]int{0, 3}, api.OK})
	ok, d, n, e := hull.Separated([]api.Point{p(0, 0), p(0, 5)}, []api.Point{p(1, 0)})
	expect(t, "Separated", nil, []any{ok, d, n, e}, []any{true, p(1, 0), 0, api.OK})
}

// TestLargest: nothing overflows at the ends of the range.
func TestLargest(t *testing.T) {
	const far = api.MaxCoord
	square := []api.Point{p(far, far), p(-far, far), p(-far, -far), p(far, -far)}
	corners, e := hull.Hull(square)
	expect(t, "Hull", square, []any{corners, e}, []any{[]int{2, 3, 0, 1}, api.OK})
	area, e := hull.Area(square)
	expect(t, "Area", square, []any{area, e}, []any{8 * far * far, api.OK})
	most, pair, e := hull.Farthest(square)
	expect(t, "Farthest", square, []any{most, pair, e}, []any{8 * far * far, [2]int{0, 2}, api.OK})
	pairs, e := hull.Antipodal(square)
	expect(t, "Antipodal", square, []any{pairs, e}, []any{[][2]int{{0, 1}, {0, 2}, {0, 3}, {1, 2}, {1, 3}, {2, 3}}, api.OK})
	indices, e := hull.Extreme(square, p(-far, far))
	expect(t, "Extreme", square, []any{indices, e}, []any{[]int{1}, api.OK})
	for _, q := range square {
		place, e := hull.Locate(square, q)
		expect(t, "Locate", q, []any{place, e}, []any{0, api.OK})
	}
	ok, d, n, e := hull.Separated(square[:1], square[2:3])
	expect(t, "Separated", square, []any{ok, d, n, e}, []any{true, p(-2*far, -2*far), -4 * far * far, api.OK})
	ok, d, n, e = hull.Separated(square[2:], []api.Point{p(0, 1-far), p(1, far)})
	expect(t, "Separated", square, []any{ok, d, n, e}, []any{true, p(0, 2*far), -2 * far * far, api.OK})
}

func TestSmall(t *testing.T) {
	r := rand.New(rand.NewSource(81))
	for range 3000 {
		l := small(r, 1+r.Intn(8))
		want := hullOf(l)
		for _, factor := range []int{1, 100000 / grid} {
			m := times(l, factor)
			corners, e := hull.Hull(m)
			expect(t, "Hull", m, []any{corners, e}, []any{want, api.OK})
			q := p(r.Intn(grid+3)-grid/2-1, r.Intn(grid+3)-grid/2-1)
			place, e := hull.Locate(m, times([]api.Point{q}, factor)[0])
			expect(t, "Locate", m, []any{place, e}, []any{locate(l, q), api.OK})
		}
		d := directions[r.Intn(len(directions))]
		var extreme []int
		for i, q := range l {
			if dot(q, d) == most(l, d) {
				extreme = append(extreme, i)
			}
		}
		indices, e := hull.Extreme(l, d)
		expect(t, "Extreme", l, []any{indices, e}, []any{extreme, api.OK})
	}
}

func TestSmallPairs(t *testing.T) {
	r := rand.New(rand.NewSource(82))
	for range 2000 {
		l := small(r, 2+r.Intn(7))
		farthest, pair := -1, [2]int{}
		for i := len(l) - 1; i >= 0; i-- {
			for j := len(l) - 1; j > i; j-- {
				if d := minus(l[i], l[j]); dot(d, d) >= farthest {
					farthest, pair = dot(d, d), [2]int{i, j}
				}
			}
		}
		square, two, e := hull.Farthest(l)
		expect(t, "Farthest", l, []any{square, two, e}, []any{farthest, pair, api.OK})
		pairs, e := hull.Antipodal(l)
		expect(t, "Antipodal", l, []any{pairs, e}, []any{antipodal(l), api.OK})
		pairs, e = hull.Antipodal(times(l, 100000/grid))
		expect(t, "Antipodal of many times", l, []any{pairs, e}, []any{antipodal(l), api.OK})
	}
}

func TestSmallAreas(t *testing.T) {
	r := rand.New(rand.NewSource(83))
	count := map[bool]int{}
	for range 3000 {
		l := small(r, r.Intn(7))
		corners, double := hullOf(l), 0
		for i := 2; i < len(corners); i++ {
			double += cross(l[corners[0]], l[corners[i-1]], l[corners[i]])
		}
		area, e := hull.Area(l)
		expect(t, "Area", l, []any{area, e}, []any{double, api.OK})
		if r.Intn(2) == 0 { // the corners alone, from any one on, sometimes with two exchanged
			var m []api.Point
			for i := range corners {
				m = append(m, l[corners[(i+len(l))%len(corners)]])
			}
			if r.Intn(4) == 0 && len(m) > 1 {
				m[0], m[1] = m[1], m[0]
			}
			l = m
		}
		ok, e := hull.Convex(l)
		expect(t, "Convex", l, []any{ok, e}, []any{convex(l), api.OK})
		count[ok]++
	}
	if count[true] < 200 || count[false] < 200 {
		t.Errorf("Convex: %v", count)
	}
}

func TestFewPoints(t *testing.T) {
	for _, x := range []struct {
		l       []api.Point
		corners []int
		pairs   [][2]int
	}{
		{[]api.Point{p(7, 7)}, []int{0}, nil}, {[]api.Point{p(7, 7), p(7, 7), p(7, 7)}, []int{0}, nil}, {[]api.Point{p(7, 9), p(7, 7)}, []int{1, 0}, [][2]int{{0, 1}}},
		{[]api.Point{p(5, 5), p(8, 8), p(2, 2), p(8, 8), p(2, 2), p(3, 3)}, []int{2, 1}, [][2]int{{1, 2}}},
		{[]api.Point{p(0, 2), p(2, 0), p(0, 0), p(0, 0), p(0, 1), p(1, 0), p(1, 1), p(2, 0)}, []int{2, 1, 0}, [][2]int{{0, 1}, {0, 2}, {1, 2}}},
	} {
		corners, e := hull.Hull(x.l)
		expect(t, "Hull", x.l, []any{corners, e}, []any{x.corners, api.OK})
		pairs, e := hull.Antipodal(x.l)
		expect(t, "Antipodal", x.l, []any{pairs, e}, []any{x.pairs, api.OK})
		ok, e := hull.Convex(x.l)
		expect(t, "Convex", x.l, []any{ok, e}, []any{false, api.OK})
		for _, q := range x.l {
			place, e := hull.Locate(x.l, q)
			expect(t, "Locate", x.l, []any{place, e}, []any{0, api.OK})
		}
	}
	square, pair, e := hull.Farthest(make([]api.Point, 64))
	expect(t, "Farthest", "64 equal ones", []any{square, pair, e}, []any{0, [2]int{0, 1}, api.OK})
}

func TestSeparated(t *testing.T) {
	r := rand.New(rand.NewSource(84))
	count := map[bool]int{}
	for range 4000 {
		a, b := small(r, 1+r.Intn(4)), small(r, 1+r.Intn(4))
		if r.Intn(3) == 0 {
			b = moved(b, p(1, r.Intn(2)))
		}
		want, direction, greatest := separated(a, b)
		if possible := some(func(d api.Point) bool { return most(a, d) < least(b, d) }); want != possible {
			t.Fatalf("%v, %v: the model says %v instead of %v", a, b, want, possible)
		}
		ok, d, n, e := hull.Separated(a, b)
		expect(t, "Separated", [][]api.Point{a, b}, []any{ok, d, n, e}, []any{want, direction, greatest, api.OK})
		count[ok]++
	}
	if count[true] < 500 || count[false] < 500 {
		t.Errorf("Separated: %v", count)
	}
}

// TestSeparatedBySides: no difference separates these, but a direction square to a side does.
func TestSeparatedBySides(t *testing.T) {
	flat, above, below := []api.Point{p(0, 0), p(10, 0)}, []api.Point{p(2, 1), p(5, 1)}, []api.Point{p(2, -1), p(5, -1)}
	for _, x := range []struct {
		a, b []api.Point
		d    api.Point
		most int
	}{
		{flat, above, p(0, 10), 0}, {flat, below, p(0, -10), 0}, {[]api.Point{flat[1], flat[0]}, above, p(0, 10), 0}, {[]api.Point{p(3, 1)}, flat, p(0, -10), -10}, {[]api.Point{p(3, -1)}, flat, p(0, 10), -10},
		{[]api.Point{p(4, 1), p(4, 3)}, flat, p(0, -10), -10}, {above, flat, p(0, -3), -3}, {[]api.Point{p(0, 0), p(10, 0), p(0, -9)}, above, p(0, 10), 0},
	} {
		ok, d, n, e := hull.Separated(x.a, x.b)
		expect(t, "Separated", [][]api.Point{x.a, x.b}, []any{ok, d, n, e}, []any{true, x.d, x.most, api.OK})
	}
}

// TestMemory: no list is changed, also not behind its end, and no result shares it.
func TestMemory(t *testing.T) {
	long := []api.Point{p(3, 3), p(0, 4), p(1, 2), p(1, 1), p(3, 3), p(8, 0), p(9, 9), p(8, 8)}
	same := slices.Clone(long)
	for _, f := range withList {
		f.call(long[:6])
	}
	if !slices.Equal(long, same) {
		t.Errorf("the list becomes %v", long)
	}
	first, _ := hull.Hull(long)
	first[0]++
	second, e := hull.Hull(long)
	expect(t, "Hull", long, []any{second, e}, []any{[]int{1, 3, 5, 6}, api.OK})
}

// P8.3

func TestSidesOfHulls(t *testing.T) {
	r := rand.New(rand.NewSource(85))
	for range 300 {
		l := wide(r)
		corners, e := hull.Hull(l)
		if e != api.OK {
			t.Fatalf("Hull(%v): error %d", l, e)
		}
		for n, i := range corners {
			j, k := corners[(n+1)%len(corners)], corners[(n+2)%len(corners)]
			if len(corners) > 2 && cross(l[i], l[j], l[k]) <= 0 {
				t.Errorf("%v: no left turn at %d", l, j)
			}
			for _, q := range l {
				if cross(l[i], l[j], q) < 0 {
					t.Errorf("%v: %v is on the right of the side from %d to %d", l, q, i, j)
				}
			}
		}
		for i, q := range l {
			place, e := hull.Locate(l, q)
			if e != api.OK || place < 0 || place > 0 && slices.Contains(corners, i) {
				t.Errorf("%v: the point %d is at %d, error %d", l, i, place, e)
			}
		}
	}
}

// cornersOf returns the vertices as points.
func cornersOf(t *testing.T, l []api.Point) []api.Point {
	t.Helper()
	corners, e := hull.Hull(l)
	if e != api.OK {
		t.Fatalf("Hull(%v): error %d", l, e)
	}
	var found []api.Point
	for _, i := range corners {
		found = append(found, l[i])
	}
	return found
}

func TestSameHulls(t *testing.T) {
	r := rand.New(rand.NewSource(86))
	for range 300 {
		l := wide(r)
		corners := cornersOf(t, l)
		var outer []api.Point
		for _, q := range l {
			if slices.Contains(corners, q) || r.Intn(3) == 0 {
				outer = append(outer, q)
			}
		}
		expect(t, "Hull without inner points", l, []any{cornersOf(t, outer)}, []any{corners})
		ok, e := hull.Convex(corners)
		expect(t, "Convex of the hull", l, []any{ok, e}, []any{len(corners) > 2, api.OK})
		for i := range l {
			l[i] = p(l[i].X/2, l[i].Y/2)
		}
		by := p(r.Intn(100001)-50000, r.Intn(100001)-50000)
		corners = cornersOf(t, l)
		expect(t, "Hull of moved points", l, []any{cornersOf(t, moved(l, by))}, []any{moved(corners, by)})
		after, before := cornersOf(t, turned(l)), turned(corners)
		start := max(0, slices.Index(before, after[0]))
		expect(t, "Hull of turned points", l, []any{after}, []any{slices.Concat(before[start:], before[:start])})
	}
}

func TestFarthestAreAntipodal(t *testing.T) {
	r := rand.New(rand.NewSource(87))
	for range 300 {
		l := wide(r)
		if len(cornersOf(t, l)) < 2 {
			continue
		}
		_, pair, e := hull.Farthest(l)
		pairs, f := hull.Antipodal(l)
		if e != api.OK || f != api.OK || !slices.Contains(pairs, pair) {
			t.Errorf("%v: the farthest points %v are not antipodal", l, pair)
		}
	}
}

// meet reports whether two hulls have a common point: a vertex of one that is in the other, or sides that cross.
func meet(t *testing.T, a, b []api.Point) bool {
	t.Helper()
	for _, x := range [][2][]api.Point{{a, b}, {b, a}} {
		for _, q := range x[0] {
			if place, _ := hull.Locate(x[1], q); place >= 0 {
				return true
			}
		}
	}
	for i, p := range a {
		for j, q := range b {
			r, s := a[(i+1)%len(a)], b[(j+1)%len(b)]
			if cross(p, r, q)*sign(cross(p, r, s)) < 0 && cross(q, s, p)*sign(cross(q, s, r)) < 0 {
				return true
			}
		}
	}
	return false
}

func sign(n int) int {
	switch {
	case n < 0:
		return -1
	case n > 0:
		return 1
	}
	return 0
}

func TestSeparatedHulls(t *testing.T) {
	r := rand.New(rand.NewSource(88))
	count := map[bool]int{}
	at := func(n int) int { return r.Intn(2*n+1) - n }
	for range 1000 {
		var a, b []api.Point
		by := p(at(60000), at(60000))
		for range 1 + r.Intn(12) {
			a, b = append(a, p(at(30000), at(30000))), append(b, p(at(40000)+by.X, at(40000)+by.Y))
		}
		ok, d, n, e := hull.Separated(a, b)
		if e != api.OK || ok == meet(t, cornersOf(t, a), cornersOf(t, b)) {
			t.Errorf("Separated(%v, %v): %v, error %d", a, b, ok, e)
		}
		if ok && (most(a, d) != n || least(b, d) <= n) {
			t.Errorf("Separated(%v, %v): %v, %d does not separate", a, b, d, n)
		}
		count[ok]++
	}
	if count[true] < 200 || count[false] < 200 {
		t.Errorf("Separated: %v", count)
	}
}

func TestCrosswise(t *testing.T) {
	r := rand.New(rand.NewSource(89))
	for range 2000 {
		l := cornersOf(t, small(r, 5))
		if len(l) != 4 {
			continue
		}
		ok, d, n, e := hull.Separated([]api.Point{l[0], l[2]}, []api.Point{l[1], l[3]})
		expect(t, "Separated crosswise", l, []any{ok, d, n, e}, []any{false, p(0, 0), 0, api.OK})
	}
}
