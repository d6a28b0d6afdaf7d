package vector_test

import (
	"math"
	"math/big"
	"math/rand"
	"reflect"
	"slices"
	"testing"

	"metrolab/api"
	"metrolab/vector"
)

func p(x, y int) api.Point { return api.Point{X: x, Y: y} }

func s(x, y, z int) api.Spot { return api.Spot{X: x, Y: y, Z: z} }

// row is a vector with numbers that never overflow.
type row []*big.Rat

func rowOf(numbers ...int) row {
	var r row
	for _, n := range numbers {
		r = append(r, big.NewRat(int64(n), 1))
	}
	return r
}

func plane(a api.Point) row { return rowOf(a.X, a.Y) }

func space(a api.Spot) row { return rowOf(a.X, a.Y, a.Z) }

func (a row) plus(factor *big.Rat, b row) row {
	var r row
	for i := range a {
		r = append(r, new(big.Rat).Add(a[i], new(big.Rat).Mul(factor, b[i])))
	}
	return r
}

func (a row) minus(b row) row { return a.plus(big.NewRat(-1, 1), b) }

func (a row) dot(b row) *big.Rat {
	sum := new(big.Rat)
	for i := range a {
		sum.Add(sum, new(big.Rat).Mul(a[i], b[i]))
	}
	return sum
}

// determinant is that of a matrix with these rows, by its definition.
func determinant(rows ...row) *big.Rat {
	if len(rows) == 0 {
		return big.NewRat(1, 1)
	}
	sum := new(big.Rat)
	for j := range rows {
		var rest []row
		for _, r := range rows[1:] {
			rest = append(rest, slices.Concat(r[:j], r[j+1:]))
		}
		term := new(big.Rat).Mul(rows[0][j], determinant(rest...))
		if j%2 == 1 {
			term.Neg(term)
		}
		sum.Add(sum, term)
	}
	return sum
}

func cross(a, b, c api.Point) *big.Rat {
	return determinant(plane(b).minus(plane(a)), plane(c).minus(plane(a)))
}

func volume(a, b, c, d api.Spot) *big.Rat {
	return determinant(space(b).minus(space(a)), space(c).minus(space(a)), space(d).minus(space(a)))
}

// is checks a result; a wanted number stands for an int or a text.
func is(t *testing.T, what string, got any, e api.Errno, want any, error api.Errno) {
	t.Helper()
	if w, ok := want.(*big.Rat); ok {
		want = api.Rat(w.RatString())
		if n, ok := got.(int); ok {
			got = api.Rat(big.NewRat(int64(n), 1).RatString())
		}
	}
	if !reflect.DeepEqual(got, want) || e != error {
		t.Errorf("%s: %v, error %d instead of %v, error %d", what, got, e, want, error)
	}
}

// wide returns coordinates of some range: in a small one there are many equal, collinear and coplanar points.
func wide(r *rand.Rand) func() int {
	most := []int{1, 2, 9, 1000, api.MaxCoord}[r.Intn(5)]
	return func() int {
		if r.Intn(8) == 0 {
			return most - 2*most*r.Intn(2)
		}
		return r.Intn(2*most+1) - most
	}
}

func points(r *rand.Rand, n int) []api.Point {
	at := wide(r)
	var l []api.Point
	for range n {
		l = append(l, p(at(), at()))
	}
	return l
}

func spots(r *rand.Rand, n int) []api.Spot {
	at := wide(r)
	var l []api.Spot
	for range n {
		l = append(l, s(at(), at(), at()))
	}
	return l
}

// beyond are coordinates that are not right.
var beyond = []int{api.MaxCoord + 1, -api.MaxCoord - 1, 1 << 32, math.MinInt32, math.MaxInt, math.MinInt}

var inPlane = []struct {
	name string
	n    int
	call func(l []api.Point) (any, api.Errno)
}{
	{"Dot", 2, func(l []api.Point) (any, api.Errno) { return vector.Dot(l[0], l[1]) }},
	{"Cross", 3, func(l []api.Point) (any, api.Errno) { return vector.Cross(l[0], l[1], l[2]) }},
	{"Side", 3, func(l []api.Point) (any, api.Errno) { return vector.Side(l[0], l[1], l[2]) }},
	{"Square", 2, func(l []api.Point) (any, api.Errno) { return vector.Square(l[0], l[1]) }},
	{"ToLine", 3, func(l []api.Point) (any, api.Errno) { return vector.ToLine(l[0], l[1], l[2]) }},
	{"ToSegment", 3, func(l []api.Point) (any, api.Errno) { return vector.ToSegment(l[0], l[1], l[2]) }},
}

var inSpace = []struct {
	name string
	n    int
	call func(l []api.Spot) (any, api.Errno)
}{
	{"SquareSpace", 2, func(l []api.Spot) (any, api.Errno) { return vector.SquareSpace(l[0], l[1]) }},
	{"Normal", 3, func(l []api.Spot) (any, api.Errno) { return vector.Normal(l[0], l[1], l[2]) }},
	{"Volume", 4, func(l []api.Spot) (any, api.Errno) { return vector.Volume(l[0], l[1], l[2], l[3]) }},
	{"ToPlane", 4, func(l []api.Spot) (any, api.Errno) { return vector.ToPlane(l[0], l[1], l[2], l[3]) }},
}

var withList = []struct {
	name string
	call func(l []api.Point) (any, api.Errno)
}{
	{"Check", func(l []api.Point) (any, api.Errno) { return 0, vector.Check(l) }},
	{"Area", func(l []api.Point) (any, api.Errno) { return vector.Area(l) }},
	{"Collinear", func(l []api.Point) (any, api.Errno) { return vector.Collinear(l) }},
	{"Order", func(l []api.Point) (any, api.Errno) { return vector.Order(l) }},
}

var withSpots = []struct {
	name string
	call func(l []api.Spot) (any, api.Errno)
}{
	{"CheckSpots", func(l []api.Spot) (any, api.Errno) { return 0, vector.CheckSpots(l) }},
	{"Coplanar", func(l []api.Spot) (any, api.Errno) { return vector.Coplanar(l) }},
}

// fails checks that there is an error, and no result beside it.
func fails(t *testing.T, what string, l, result any, e, error api.Errno) {
	t.Helper()
	if e != error || !reflect.ValueOf(result).IsZero() {
		t.Errorf("%s(%v): %v, error %d instead of error %d", what, l, result, e, error)
	}
}

// P7.1

func TestCheck(t *testing.T) {
	edge := []api.Point{p(100000, 100000), p(-100000, -100000), p(100000, -100000), p(0, 0)}
	for _, l := range [][]api.Point{nil, {}, edge, make([]api.Point, 64), slices.Repeat(edge, 16)} {
		if e := vector.Check(l); e != api.OK {
			t.Errorf("Check(%v): %d", l, e)
		}
	}
	edges := []api.Spot{s(100000, 100000, 100000), s(-100000, -100000, -100000), s(0, 0, 0), s(0, 0, 0)}
	for _, l := range [][]api.Spot{nil, {}, edges, make([]api.Spot, 64), slices.Repeat(edges, 16)} {
		if e := vector.CheckSpots(l); e != api.OK {
			t.Errorf("CheckSpots(%v): %d", l, e)
		}
	}
}

func TestErrorsOfPoints(t *testing.T) {
	for _, f := range inPlane {
		for i := range f.n {
			for _, n := range beyond {
				for _, wrong := range []api.Point{p(n, 0), p(0, n), p(n, n)} {
					l := make([]api.Point, f.n) // all equal, so that ErrRange comes before ErrZero
					l[i] = wrong
					result, e := f.call(l)
					fails(t, f.name, l, result, e, api.ErrRange)
				}
			}
		}
	}
	for _, f := range inSpace {
		for i := range f.n {
			for _, n := range beyond {
				for _, wrong := range []api.Spot{s(n, 0, 0), s(0, n, 0), s(0, 0, n), s(n, n, n)} {
					l := make([]api.Spot, f.n)
					l[i] = wrong
					result, e := f.call(l)
					fails(t, f.name, l, result, e, api.ErrRange)
				}
			}
		}
	}
}

func TestErrorsOfLists(t *testing.T) {
	for _, f := range withList {
		for _, n := range beyond {
			for _, wrong := range []api.Point{p(n, 0), p(0, n)} {
				for _, l := range [][]api.Point{{wrong}, {p(0, 0), wrong}, {wrong, p(3, 1), p(0, 0)}, append(make([]api.Point, 63), wrong)} {
					result, e := f.call(l)
					fails(t, f.name, l, result, e, api.ErrRange)
				}
				result, e := f.call(append(make([]api.Point, 64), wrong))
				fails(t, f.name, wrong, result, e, api.ErrMany)
			}
		}
		for _, n := range []int{65, 66, 1000} {
			result, e := f.call(make([]api.Point, n))
			fails(t, f.name, n, result, e, api.ErrMany)
		}
	}
	for _, f := range withSpots {
		for _, n := range beyond {
			for _, wrong := range []api.Spot{s(n, 0, 0), s(0, n, 0), s(0, 0, n)} {
				for _, l := range [][]api.Spot{{wrong}, {s(0, 0, 0), wrong}, {wrong, s(3, 1, 0), s(0, 0, 0)}, append(make([]api.Spot, 63), wrong)} {
					result, e := f.call(l)
					fails(t, f.name, l, result, e, api.ErrRange)
				}
				result, e := f.call(append(make([]api.Spot, 64), wrong))
				fails(t, f.name, wrong, result, e, api.ErrMany)
			}
		}
		for _, n := range []int{65, 66, 1000} {
			result, e := f.call(make([]api.Spot, n))
			fails(t, f.name, n, result, e, api.ErrMany)
		}
	}
}

func TestExamples(t *testing.T) {
	product, e := vector.Cross(p(0, 0), p(4, 0), p(0, 3))
	is(t, "Cross", product, e, 12, api.OK)
	side, e := vector.Side(p(0, 0), p(4, 0), p(0, 3))
	is(t, "Side", side, e, 1, api.OK)
	product, e = vector.Dot(p(4, 0), p(1, 3))
	is(t, "Dot", product, e, 4, api.OK)
	area, e := vector.Area([]api.Point{p(0, 0), p(4, 0), p(0, 3)})
	is(t, "Area", area, e, 12, api.OK)
	six, e := vector.Volume(s(0, 0, 0), s(1, 0, 0), s(0, 2, 0), s(0, 0, 3))
	is(t, "Volume", six, e, 6, api.OK)
	normal, e := vector.Normal(s(0, 0, 0), s(1, 0, 0), s(0, 2, 0))
	is(t, "Normal", normal, e, [3]int{0, 0, 2}, api.OK)
	far, e := vector.ToLine(p(0, 0), p(4, 0), p(0, 3))
	is(t, "ToLine", far, e, api.Rat("144/25"), api.OK)
	far, e = vector.ToLine(p(9, 0), p(0, 0), p(5, 0))
	is(t, "ToLine", far, e, api.Rat("0"), api.OK)
	far, e = vector.ToSegment(p(9, 0), p(0, 0), p(5, 0))
	is(t, "ToSegment", far, e, api.Rat("16"), api.OK)
	far, e = vector.ToPlane(s(0, 0, 0), s(1, 0, 0), s(0, 1, 0), s(0, 0, 1))
	is(t, "ToPlane", far, e, api.Rat("1/3"), api.OK)
}

func TestProductsInPlane(t *testing.T) {
	r := rand.New(rand.NewSource(71))
	for range 2000 {
		l := points(r, 3)
		a, b, c := l[0], l[1], l[2]
		got, e := vector.Dot(a, b)
		is(t, "Dot", got, e, plane(a).dot(plane(b)), api.OK)
		got, e = vector.Cross(a, b, c)
		is(t, "Cross", got, e, cross(a, b, c), api.OK)
		got, e = vector.Side(a, b, c)
		is(t, "Side", got, e, cross(a, b, c).Sign(), api.OK)
		got, e = vector.Square(a, b)
		v := plane(b).minus(plane(a))
		is(t, "Square", got, e, v.dot(v), api.OK)
	}
}

func TestArea(t *testing.T) {
	r := rand.New(rand.NewSource(72))
	for range 1000 {
		l := points(r, r.Intn(9))
		want := new(big.Rat)
		for i, a := range l {
			want.Add(want, determinant(plane(a), plane(l[(i+1)%len(l)])))
		}
		if len(l) < 3 {
			want.SetInt64(0)
		}
		got, e := vector.Area(l)
		is(t, "Area", got, e, want, api.OK)
	}
	most := []api.Point{p(-api.MaxCoord, -api.MaxCoord), p(api.MaxCoord, -api.MaxCoord), p(api.MaxCoord, api.MaxCoord), p(-api.MaxCoord, api.MaxCoord)}
	got, e := vector.Area(slices.Repeat(most, 16))
	is(t, "Area", got, e, 16*80000000000, api.OK)
}

func TestProductsInSpace(t *testing.T) {
	r := rand.New(rand.NewSource(73))
	unit := []row{rowOf(1, 0, 0), rowOf(0, 1, 0), rowOf(0, 0, 1)}
	for range 2000 {
		l := spots(r, 4)
		a, b, c, d := l[0], l[1], l[2], l[3]
		v, w := space(b).minus(space(a)), space(c).minus(space(a))
		square, e := vector.SquareSpace(a, b)
		is(t, "SquareSpace", square, e, v.dot(v), api.OK)
		normal, e := vector.Normal(a, b, c)
		for i := range normal {
			is(t, "Normal", normal[i], e, determinant(unit[i], v, w), api.OK)
		}
		six, e := vector.Volume(a, b, c, d)
		is(t, "Volume", six, e, volume(a, b, c, d), api.OK)
	}
}

// P7.2

// every reports whether a condition holds for all choices of elements of a list.
func every[T any](l []T, n int, holds func(choice ...T) bool, choice ...T) bool {
	if n == 0 {
		return holds(choice...)
	}
	for i, x := range l {
		if !every(l[i+1:], n-1, holds, append(slices.Clip(choice), x)...) {
			return false
		}
	}
	return true
}

func TestCollinear(t *testing.T) {
	r := rand.New(rand.NewSource(74))
	count := map[bool]int{}
	for range 3000 {
		l := points(r, r.Intn(7))
		if v, w := p(r.Intn(7)-3, r.Intn(7)-3), p(r.Intn(9), r.Intn(9)); r.Intn(2) == 0 {
			for i := range l {
				step := r.Intn(5) - 2
				l[i] = p(w.X+step*v.X, w.Y+step*v.Y)
			}
		}
		if len(l) > 0 && r.Intn(3) == 0 {
			l[r.Intn(len(l))].Y /= 2
		}
		want := every(l, 3, func(q ...api.Point) bool { return cross(q[0], q[1], q[2]).Sign() == 0 })
		got, e := vector.Collinear(l)
		is(t, "Collinear", got, e, want, api.OK)
		if len(l) > 2 {
			count[got]++
		}
	}
	if count[true] < 100 || count[false] < 100 {
		t.Errorf("Collinear: %v", count)
	}
}

func TestCoplanar(t *testing.T) {
	r := rand.New(rand.NewSource(75))
	count := map[bool]int{}
	for range 3000 {
		l := spots(r, r.Intn(8))
		if u, v, w := spots(r, 1)[0], s(r.Intn(7)-3, r.Intn(7)-3, r.Intn(7)-3), s(r.Intn(7)-3, r.Intn(7)-3, r.Intn(7)-3); r.Intn(2) == 0 {
			for i := range l {
				m, n := r.Intn(5)-2, r.Intn(3)-1
				l[i] = s((u.X+m*v.X+n*w.X)/2, (u.Y+m*v.Y+n*w.Y)/2, (u.Z+m*v.Z+n*w.Z)/2)
			}
		}
		if len(l) > 0 && r.Intn(3) == 0 {
			l[r.Intn(len(l))].Z /= 2
		}
		want := every(l, 4, func(q ...api.Spot) bool { return volume(q[0], q[1], q[2], q[3]).Sign() == 0 })
		got, e := vector.Coplanar(l)
		is(t, "Coplanar", got, e, want, api.OK)
		if len(l) > 3 {
			count[got]++
		}
	}
	if count[true] < 100 || count[false] < 100 {
		t.Errorf("Coplanar: %v", count)
	}
}

// TestFewPoints: any two points are collinear, and any three coplanar, also at the ends of the range.
func TestFewPoints(t *testing.T) {
	far := api.MaxCoord
	for n := range 3 {
		got, e := vector.Collinear([]api.Point{p(-far, far), p(far, 1)}[:n])
		is(t, "Collinear", got, e, true, api.OK)
	}
	for n := range 4 {
		got, e := vector.Coplanar([]api.Spot{s(-far, far, 0), s(far, 1, -far), s(far, far, far)}[:n])
		is(t, "Coplanar", got, e, true, api.OK)
	}
	got, e := vector.Collinear(make([]api.Point, 64))
	is(t, "Collinear", got, e, true, api.OK)
	got, e = vector.Coplanar(make([]api.Spot, 64))
	is(t, "Coplanar", got, e, true, api.OK)
	got, e = vector.Collinear(append(make([]api.Point, 62), p(1, 1), p(far, far-1)))
	is(t, "Collinear", got, e, false, api.OK)
	got, e = vector.Coplanar([]api.Spot{s(-far, -far, -far), s(far, -far, -far), s(-far, far, -far), s(far, far, 1-far)})
	is(t, "Coplanar", got, e, false, api.OK)
}

// share returns how much of b is nearest to a.
func share(a, b row) *big.Rat {
	if b.dot(b).Sign() == 0 {
		return new(big.Rat)
	}
	return new(big.Rat).Quo(a.dot(b), b.dot(b))
}

// without returns what is square to b in a.
func (a row) without(b row) row { return a.plus(new(big.Rat).Neg(share(a, b)), b) }

// fromSegment returns what leads to a from the nearest point between 0 and b.
func (a row) fromSegment(b row) row {
	switch t := share(a, b); {
	case t.Sign() < 0:
		return a
	case t.Cmp(big.NewRat(1, 1)) > 0:
		return a.minus(b)
	}
	return a.without(b)
}

func TestDistancesInPlane(t *testing.T) {
	r := rand.New(rand.NewSource(76))
	for range 3000 {
		l := points(r, 3)
		u, v := plane(l[0]).minus(plane(l[1])), plane(l[2]).minus(plane(l[1]))
		to := u.fromSegment(v)
		got, e := vector.ToSegment(l[0], l[1], l[2])
		is(t, "ToSegment", got, e, to.dot(to), api.OK)
		got, e = vector.ToLine(l[0], l[1], l[2])
		if l[1] == l[2] {
			is(t, "ToLine", got, e, api.Rat(""), api.ErrZero)
			continue
		}
		to = u.without(v)
		is(t, "ToLine", got, e, to.dot(to), api.OK)
	}
}

func TestDistancesInSpace(t *testing.T) {
	r := rand.New(rand.NewSource(77))
	for range 3000 {
		l := spots(r, 4)
		if r.Intn(8) == 0 {
			l[3] = s(2*l[2].X-l[1].X, 2*l[2].Y-l[1].Y, 2*l[2].Z-l[1].Z)
		}
		if vector.CheckSpots(l) != api.OK {
			continue
		}
		to, v, w := space(l[0]).minus(space(l[1])), space(l[2]).minus(space(l[1])), space(l[3]).minus(space(l[1]))
		w = w.without(v)
		got, e := vector.ToPlane(l[0], l[1], l[2], l[3])
		if v.dot(v).Sign() == 0 || w.dot(w).Sign() == 0 {
			is(t, "ToPlane", got, e, api.Rat(""), api.ErrZero)
			continue
		}
		to = to.without(v).without(w)
		is(t, "ToPlane", got, e, to.dot(to), api.OK)
	}
}

func TestNoLine(t *testing.T) {
	for _, q := range []api.Point{p(3, 4), p(1, 1)} {
		got, e := vector.ToLine(q, p(1, 1), p(1, 1))
		is(t, "ToLine", got, e, api.Rat(""), api.ErrZero)
	}
	got, e := vector.ToSegment(p(4, 5), p(1, 1), p(1, 1))
	is(t, "ToSegment", got, e, api.Rat("25"), api.OK)
	for _, l := range [][3]api.Spot{{}, {s(1, 2, 3), s(1, 2, 3), s(4, 4, 4)}, {s(1, 2, 3), s(4, 4, 4), s(1, 2, 3)}, {s(4, 4, 4), s(1, 2, 3), s(1, 2, 3)}, {s(0, 0, 0), s(1, 2, 3), s(-2, -4, -6)}} {
		got, e := vector.ToPlane(s(9, 9, 9), l[0], l[1], l[2])
		is(t, "ToPlane", got, e, api.Rat(""), api.ErrZero)
	}
}

func TestOrder(t *testing.T) {
	r := rand.New(rand.NewSource(78))
	for range 1000 {
		l := points(r, r.Intn(65))
		got, e := vector.Order(l)
		if e != api.OK || len(got) != len(l) {
			t.Fatalf("Order(%v): %v, error %d", l, got, e)
		}
		for n, i := range got {
			if n == 0 {
				continue
			}
			before := got[n-1]
			a, b := l[before], l[i]
			if !(a.X < b.X || a.X == b.X && a.Y < b.Y || a == b && before < i) {
				t.Errorf("Order(%v): %d before %d", l, before, i)
			}
		}
	}
}

// P7.3

func ok(t *testing.T, n int, e api.Errno) int {
	t.Helper()
	if e != api.OK {
		t.Errorf("error %d", e)
	}
	return n
}

func TestConsequences(t *testing.T) {
	r := rand.New(rand.NewSource(79))
	of := func(a, b, c api.Point) int { n, e := vector.Cross(a, b, c); return ok(t, n, e) }
	for range 2000 {
		l := points(r, 4)
		a, b, c, d := l[0], l[1], l[2], l[3]
		product := of(a, b, c)
		if of(b, c, a) != product || of(c, a, b) != product {
			t.Errorf("%v, %v, %v: the cross product changes when they are turned", a, b, c)
		}
		if of(b, a, c) != -product || of(a, c, b) != -product || of(c, b, a) != -product {
			t.Errorf("%v, %v, %v: the cross product keeps its sign when two are exchanged", a, b, c)
		}
		origin := p(0, 0)
		dot, e := vector.Dot(a, b)
		across, right := big.NewInt(int64(of(origin, a, b))), big.NewInt(int64(ok(t, dot, e)))
		first, e := vector.Square(origin, a)
		second, f := vector.Square(origin, b)
		sum := new(big.Int).Add(across.Mul(across, across), right.Mul(right, right))
		if sum.Cmp(new(big.Int).Mul(big.NewInt(int64(ok(t, first, e))), big.NewInt(int64(ok(t, second, f))))) != 0 {
			t.Errorf("%v, %v: the squares of the products do not add up", a, b)
		}
		area, e := vector.Area([]api.Point{a, b, c})
		if ok(t, area, e) != of(d, a, b)+of(d, b, c)+of(d, c, a) {
			t.Errorf("%v, %v, %v: the area is not the sum of triangles with %v", a, b, c, d)
		}
	}
}

func TestMovedCross(t *testing.T) {
	r := rand.New(rand.NewSource(80))
	for range 1000 {
		l := points(r, 4)
		move := func(q api.Point) api.Point { return p(q.X/2+l[3].X/2, q.Y/2+l[3].Y/2) }
		half := func(q api.Point) api.Point { return p(q.X/2, q.Y/2) }
		before, e := vector.Cross(half(l[0]), half(l[1]), half(l[2]))
		after, f := vector.Cross(move(l[0]), move(l[1]), move(l[2]))
		if ok(t, before, e) != ok(t, after, f) {
			t.Errorf("%v: the cross product changes when they are moved", l)
		}
	}
}

func TestNormalIsSquare(t *testing.T) {
	r := rand.New(rand.NewSource(81))
	for range 1000 {
		l := spots(r, 3)
		normal, e := vector.Normal(l[0], l[1], l[2])
		n := rowOf(normal[:]...)
		for _, q := range l[1:] {
			if e != api.OK || n.dot(space(q).minus(space(l[0]))).Sign() != 0 {
				t.Errorf("%v: the normal %v is not square", l, normal)
			}
		}
	}
}

func TestSegmentIsNeverNearer(t *testing.T) {
	r := rand.New(rand.NewSource(82))
	for range 1000 {
		l := points(r, 3)
		segment, e := vector.ToSegment(l[0], l[1], l[2])
		line, f := vector.ToLine(l[0], l[1], l[2])
		if e != api.OK || f != api.OK && f != api.ErrZero {
			t.Fatalf("%v: errors %d, %d", l, e, f)
		}
		if f == api.ErrZero {
			continue
		}
		near, _ := new(big.Rat).SetString(string(segment))
		nearer, _ := new(big.Rat).SetString(string(line))
		if near.Cmp(nearer) < 0 {
			t.Errorf("%v: the segment is at %s, the line at %s", l, segment, line)
		}
	}
}

// TestMemory: no list is changed, also not behind its end, and no result shares it.
func TestMemory(t *testing.T) {
	long := []api.Point{p(3, 3), p(1, 2), p(1, 1), p(9, 9), p(8, 8)}
	spots := []api.Spot{s(3, 3, 3), s(1, 2, 4), s(1, 1, 1), s(9, 9, 0), s(8, 8, 0)}
	same, sameSpots := slices.Clone(long), slices.Clone(spots)
	for _, f := range withList {
		f.call(long[:3])
	}
	for _, f := range withSpots {
		f.call(spots[:3])
	}
	if !slices.Equal(long, same) || !slices.Equal(spots, sameSpots) {
		t.Errorf("the lists become %v, %v", long, spots)
	}
	first, _ := vector.Order(long)
	first[0] = 7
	second, e := vector.Order(long)
	is(t, "Order", second, e, []int{2, 1, 0, 4, 3}, api.OK)
}
