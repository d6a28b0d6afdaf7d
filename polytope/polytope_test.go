package polytope_test

import (
	"math"
	"math/big"
	"math/rand"
	"reflect"
	"slices"
	"strings"
	"testing"

	"metrolab/api"
	"metrolab/polytope"
	"metrolab/program"
)

func bound(most api.Rat, row ...api.Rat) api.Bound { return api.Bound{Row: row, Most: most} }

func digits(s string, n int) api.Rat { return api.Rat(strings.Repeat(s, n)) }

func value(a api.Rat) *big.Rat {
	v, ok := new(big.Rat).SetString(string(a))
	if !ok {
		panic("no number: " + a)
	}
	return v
}

func text(v *big.Rat) api.Rat { return api.Rat(v.RatString()) }

func opposite(a api.Rat) api.Rat { return text(new(big.Rat).Neg(value(a))) }

func zeros(n int) []api.Rat { return slices.Repeat([]api.Rat{"0"}, n) }

// dot adds products by the definition.
func dot(a, b []api.Rat) *big.Rat {
	sum := new(big.Rat)
	for i, x := range a {
		sum.Add(sum, new(big.Rat).Mul(value(x), value(b[i])))
	}
	return sum
}

func keeps(l []api.Bound, point []api.Rat) bool {
	return !slices.ContainsFunc(l, func(b api.Bound) bool { return dot(b.Row, point).Cmp(value(b.Most)) > 0 })
}

// combinations returns the lists of so many of m indices in lexicographic order.
func combinations(m, size int) [][]int {
	if size == 0 {
		return [][]int{nil}
	}
	var all [][]int
	for _, l := range combinations(m, size-1) {
		from := 0
		if len(l) > 0 {
			from = l[len(l)-1] + 1
		}
		for i := from; i < m; i++ {
			all = append(all, append(slices.Clone(l), i))
		}
	}
	return all
}

func chosen(l []api.Bound, indices []int) []api.Bound {
	var found []api.Bound
	for _, i := range indices {
		found = append(found, l[i])
	}
	return found
}

// common returns the one point that keeps n bounds with equality, if there is just one.
func common(n int, l []api.Bound) ([]api.Rat, bool) {
	var rows [][]*big.Rat
	for _, b := range l {
		var row []*big.Rat
		for _, a := range b.Row {
			row = append(row, value(a))
		}
		rows = append(rows, append(row, value(b.Most)))
	}
	for j := range n {
		at := slices.IndexFunc(rows[j:], func(row []*big.Rat) bool { return row[j].Sign() != 0 })
		if at < 0 {
			return nil, false
		}
		rows[j], rows[j+at] = rows[j+at], rows[j]
		for i, row := range rows {
			if i == j {
				continue
			}
			factor := new(big.Rat).Quo(row[j], rows[j][j])
			for k := range row {
				row[k] = new(big.Rat).Sub(row[k], new(big.Rat).Mul(factor, rows[j][k]))
			}
		}
	}
	var point []api.Rat
	for j := range n {
		point = append(point, text(new(big.Rat).Quo(rows[j][n], rows[j][j])))
	}
	return point, true
}

// set is a set of bounds within a box that is so wide that the set is empty, or bounded, or keeps a bound, exactly if its corners say so.
type set struct {
	corners [][]api.Rat
	bounded bool
}

func setOf(n int, l []api.Bound, wide api.Rat) set {
	all := slices.Clone(l)
	for j := range n {
		for _, sign := range []api.Rat{"1", "-1"} {
			b := bound(wide, zeros(n)...)
			b.Row[j] = sign
			all = append(all, b)
		}
	}
	s := set{bounded: true}
	for _, indices := range combinations(len(all), n) {
		if point, ok := common(n, chosen(all, indices)); ok && keeps(all, point) {
			s.corners = append(s.corners, point)
			s.bounded = s.bounded && !slices.Contains(point, wide) && !slices.Contains(point, "-"+wide)
		}
	}
	slices.SortFunc(s.corners, func(x, y []api.Rat) int {
		return slices.CompareFunc(x, y, func(a, b api.Rat) int { return value(a).Cmp(value(b)) })
	})
	s.corners = slices.CompactFunc(s.corners, slices.Equal)
	return s
}

func (s set) implies(b api.Bound) bool {
	return !slices.ContainsFunc(s.corners, func(point []api.Rat) bool { return !keeps([]api.Bound{b}, point) })
}

// err returns the error that Vertices and Box must return.
func (s set) err() api.Errno {
	switch {
	case len(s.corners) == 0:
		return api.ErrEmpty
	case !s.bounded:
		return api.ErrState
	}
	return api.OK
}

func (s set) box(n int) []api.Span {
	var box []api.Span
	for j := range n {
		order := func(x, y []api.Rat) int { return value(x[j]).Cmp(value(y[j])) }
		box = append(box, api.Span{Low: slices.MinFunc(s.corners, order)[j], High: slices.MaxFunc(s.corners, order)[j]})
	}
	return box
}

const wide = "1000000000"

// expect compares results; nil and empty slices are equal.
func expect(t *testing.T, what string, l any, got any, e api.Errno, wanted any, error api.Errno) {
	t.Helper()
	g, w := reflect.ValueOf(got), reflect.ValueOf(wanted)
	empty := g.Kind() == reflect.Slice && g.Len() == 0 && w.Len() == 0
	if !empty && !reflect.DeepEqual(got, wanted) || e != error {
		t.Errorf("%s of %v: %v, error %d instead of %v, error %d", what, l, got, e, wanted, error)
	}
}

// expectSet checks Bounded, Vertices and Box.
func expectSet(t *testing.T, n int, l []api.Bound, s set) {
	t.Helper()
	var corners [][]api.Rat
	var spans []api.Span
	if s.err() == api.OK {
		corners, spans = s.corners, s.box(n)
	}
	bounded, e := polytope.Bounded(n, l)
	expect(t, "Bounded", l, bounded, e, s.bounded, api.OK)
	vertices, e := polytope.Vertices(n, l)
	expect(t, "Vertices", l, vertices, e, corners, s.err())
	box, e := polytope.Box(n, l)
	expect(t, "Box", l, box, e, spans, s.err())
}

// expectReduced checks Redundant and Conflict by the definitions.
func expectReduced(t *testing.T, n int, l []api.Bound, wide api.Rat) {
	t.Helper()
	left, spare := slices.Clone(l), []int{}
	for i := len(l) - 1; i >= 0; i-- {
		if others := slices.Delete(slices.Clone(left), i, i+1); setOf(n, others, wide).implies(l[i]) {
			left, spare = others, append([]int{i}, spare...)
		}
	}
	redundant, e := polytope.Redundant(n, l)
	expect(t, "Redundant", l, redundant, e, spare, api.OK)
	conflict, e := polytope.Conflict(n, l)
	if s := setOf(n, l, wide); len(s.corners) > 0 {
		expect(t, "Conflict", l, conflict, e, []int(nil), api.ErrState)
		return
	}
	expect(t, "Conflict", l, conflict, e, firstConflict(n, l, wide), api.OK)
}

func firstConflict(n int, l []api.Bound, wide api.Rat) []int {
	for size := 1; size <= n+1; size++ {
		for _, indices := range combinations(len(l), size) {
			if s := setOf(n, chosen(l, indices), wide); len(s.corners) == 0 {
				return indices
			}
		}
	}
	return nil
}

func list(n int, number func() api.Rat) []api.Rat {
	var l []api.Rat
	for range n {
		l = append(l, number())
	}
	return l
}

// random returns bounds whose numbers come from a pool; some of them are repeated, opposite or parallel to others.
func random(r *rand.Rand, n, m int, number func() api.Rat) []api.Bound {
	var l []api.Bound
	for len(l) < m {
		b := bound(number(), list(n, number)...)
		if len(l) > 0 && r.Intn(4) == 0 {
			other := l[r.Intn(len(l))]
			b.Row = slices.Clone(other.Row)
			if r.Intn(2) == 0 {
				for j, a := range b.Row {
					b.Row[j] = opposite(a)
				}
				if r.Intn(2) == 0 {
					b.Most = opposite(other.Most)
				}
			}
		}
		l = append(l, b)
	}
	return l
}

// numbers returns functions that choose from a pool each.
func numbers(r *rand.Rand) []func() api.Rat {
	var l []func() api.Rat
	for _, pool := range [][]api.Rat{{"0", "1", "-1"}, {"0", "0", "1", "-1", "2"}, {"1", "-1", "2", "-3", "4", "-5", "0"}, {"1/2", "-2/3", "5/7", "-9", "11/4", "0", "-1/12", "3"}, {"1", "-1", "1/3", "-1/3", "2/3", "-2/3"}} {
		l = append(l, func() api.Rat { return pool[r.Intn(len(pool))] })
	}
	return l
}

// around returns bounds of which nearly all have something in common: 0 keeps them, or they meet in one point.
func around(r *rand.Rand, n, m int, number func() api.Rat) []api.Bound {
	l := random(r, n, m, number)
	at := list(n, number)
	for i, b := range l {
		switch r.Intn(9) {
		case 0:
		case 1, 2, 3:
			l[i].Most = text(dot(b.Row, at))
		default:
			l[i].Most = text(new(big.Rat).Add(dot(b.Row, at), new(big.Rat).Abs(value(b.Most))))
		}
	}
	return l
}

func samples(r *rand.Rand, count int, each func(n int, l []api.Bound, number func() api.Rat)) {
	for i := range count {
		number := numbers(r)[i%5]
		n := 1 + r.Intn(3)
		make := []func(*rand.Rand, int, int, func() api.Rat) []api.Bound{random, around, around}[i%3]
		each(n, make(r, n, r.Intn([]int{6, 9, 9}[n-1]), number), number)
	}
}

// P6.1

func TestSets(t *testing.T) {
	r := rand.New(rand.NewSource(1))
	counts := map[api.Errno]int{}
	samples(r, 600, func(n int, l []api.Bound, _ func() api.Rat) {
		s := setOf(n, l, wide)
		expectSet(t, n, l, s)
		counts[s.err()]++
	})
	if counts[api.OK] < 80 || counts[api.ErrEmpty] < 80 || counts[api.ErrState] < 80 {
		t.Errorf("%v", counts)
	}
}

func TestTight(t *testing.T) {
	r := rand.New(rand.NewSource(2))
	kept := 0
	samples(r, 600, func(n int, l []api.Bound, number func() api.Rat) {
		points := append(setOf(n, l, wide).corners, list(n, number), list(n, number))
		for _, point := range points {
			var wanted []int
			error := program.Verify(n, l, point)
			if keeps(l, point) {
				kept++
				for i, b := range l {
					if dot(b.Row, point).Cmp(value(b.Most)) == 0 {
						wanted = append(wanted, i)
					}
				}
			}
			tight, e := polytope.Tight(n, l, point)
			expect(t, "Tight", l, tight, e, wanted, error)
		}
	})
	if kept < 1000 {
		t.Errorf("only %d points", kept)
	}
	square := []api.Bound{bound("3", "1", "0"), bound("3", "0", "1")}
	long := digits("7", 1025)
	for _, x := range []struct {
		point []api.Rat
		e     api.Errno
	}{{nil, api.ErrShape}, {[]api.Rat{"1", "x", "1"}, api.ErrShape}, {[]api.Rat{"1", "x"}, api.ErrForm}, {[]api.Rat{long, "x"}, api.ErrLarge}, {[]api.Rat{"4", "0"}, api.ErrProof}, {[]api.Rat{digits("9", 1024), "0"}, api.ErrProof}} {
		tight, e := polytope.Tight(2, square, x.point)
		expect(t, "Tight", x.point, tight, e, []int(nil), x.e)
	}
	half := digits("7", 600)
	slope := []api.Bound{bound(half, half, half), bound("0", "-1", "0")}
	tight, e := polytope.Tight(2, slope, []api.Rat{"0", "1"})
	expect(t, "Tight", slope, tight, e, []int{0, 1}, api.OK)
	tight, e = polytope.Tight(2, slope, []api.Rat{half, "-" + half})
	expect(t, "Tight", slope, tight, e, []int(nil), api.ErrLarge)
}

func TestExamples(t *testing.T) {
	l := []api.Bound{bound("4", "1", "1"), bound("0", "-1", "0"), bound("0", "0", "-1")}
	vertices, e := polytope.Vertices(2, l)
	expect(t, "Vertices", l, vertices, e, [][]api.Rat{{"0", "0"}, {"0", "4"}, {"4", "0"}}, api.OK)
	box, e := polytope.Box(2, l)
	expect(t, "Box", l, box, e, []api.Span{{Low: "0", High: "4"}, {Low: "0", High: "4"}}, api.OK)
	l = []api.Bound{bound("2", "1"), bound("3", "1"), bound("0", "-1")}
	redundant, e := polytope.Redundant(1, l)
	expect(t, "Redundant", l, redundant, e, []int{1}, api.OK)
	l = []api.Bound{bound("2", "1"), bound("0", "-1"), bound("4", "2"), bound("2", "1")}
	redundant, e = polytope.Redundant(1, l)
	expect(t, "Redundant", l, redundant, e, []int{2, 3}, api.OK)
	l = []api.Bound{bound("1", "1", "0"), bound("5", "0", "1"), bound("-2", "-1", "0")}
	conflict, e := polytope.Conflict(2, l)
	expect(t, "Conflict", l, conflict, e, []int{0, 2}, api.OK)
}

// Vertices are ordered as numbers are, not as texts.
func TestOrder(t *testing.T) {
	l := []api.Bound{bound("10", "1", "0"), bound("5/2", "-1", "0"), bound("1/3", "0", "1"), bound("9", "0", "-1")}
	vertices, e := polytope.Vertices(2, l)
	expect(t, "Vertices", l, vertices, e, [][]api.Rat{{"-5/2", "-9"}, {"-5/2", "1/3"}, {"10", "-9"}, {"10", "1/3"}}, api.OK)
}

// P6.2

func TestRedundantAndConflict(t *testing.T) {
	r := rand.New(rand.NewSource(3))
	conflicts, spare := map[int]int{}, 0
	samples(r, 300, func(n int, l []api.Bound, _ func() api.Rat) {
		expectReduced(t, n, l, wide)
		conflict, _ := polytope.Conflict(n, l)
		conflicts[len(conflict)]++
		redundant, _ := polytope.Redundant(n, l)
		spare += len(redundant)
	})
	if conflicts[1] < 4 || conflicts[2] < 10 || conflicts[3] < 4 || spare < 300 {
		t.Errorf("conflicts of sizes %v, %d redundant", conflicts, spare)
	}
	tetrahedron := []api.Bound{bound("9", "1", "1", "1"), bound("-1", "1", "1", "1"), bound("0", "-1", "0", "0"), bound("0", "0", "-1", "0"), bound("5", "1", "0", "0"), bound("0", "0", "0", "-1")}
	expectReduced(t, 3, tetrahedron, wide)
	conflict, e := polytope.Conflict(3, tetrahedron)
	expect(t, "Conflict", tetrahedron, conflict, e, []int{1, 2, 3, 5}, api.OK)
}

func sum(a, b api.Bound) api.Bound {
	c := bound(text(new(big.Rat).Add(value(a.Most), value(b.Most))))
	for j := range a.Row {
		c.Row = append(c.Row, text(new(big.Rat).Add(value(a.Row[j]), value(b.Row[j]))))
	}
	return c
}

func TestInside(t *testing.T) {
	r := rand.New(rand.NewSource(4))
	counts := map[bool]int{}
	samples(r, 800, func(n int, l []api.Bound, number func() api.Rat) {
		s := setOf(n, l, wide)
		others := random(r, n, r.Intn(3), number)
		for i, b := range others {
			switch kind := r.Intn(4); {
			case kind == 0:
			case s.err() == api.OK: // it touches the set
				most := slices.MaxFunc(s.corners, func(x, y []api.Rat) int { return dot(b.Row, x).Cmp(dot(b.Row, y)) })
				others[i].Most = text(dot(b.Row, most))
			case len(l) > 0: // it is the sum of two of the bounds
				others[i] = sum(l[r.Intn(len(l))], l[r.Intn(len(l))])
			}
		}
		wanted := !slices.ContainsFunc(others, func(b api.Bound) bool { return !s.implies(b) })
		inside, e := polytope.Inside(n, l, others)
		expect(t, "Inside", [][]api.Bound{l, others}, inside, e, wanted, api.OK)
		counts[wanted]++
	})
	if counts[true] < 200 || counts[false] < 100 {
		t.Errorf("%v", counts)
	}
	// Other bounds have their errors even if the set is empty or the first of them decides.
	none, long := []api.Bound{bound("-1", "0", "0")}, digits("7", 1025)
	for _, l := range [][]api.Bound{nil, none} {
		for _, x := range []struct {
			others []api.Bound
			e      api.Errno
		}{{make([]api.Bound, 65), api.ErrMany}, {[]api.Bound{bound("1", "1", "0"), bound("1", "1")}, api.ErrShape}, {[]api.Bound{bound("1", "1", "0"), bound("x", "1", "0")}, api.ErrForm}, {[]api.Bound{bound("1", "1", long), bound("x", "1", "0")}, api.ErrLarge}} {
			inside, e := polytope.Inside(2, l, x.others)
			expect(t, "Inside", l, inside, e, false, x.e)
		}
	}
}

// All functions return the error of the bounds first.
func TestArguments(t *testing.T) {
	long := digits("7", 1025)
	for _, x := range []struct {
		n int
		l []api.Bound
		e api.Errno
	}{
		{0, nil, api.ErrRange}, {9, nil, api.ErrRange}, {-1, make([]api.Bound, 65), api.ErrRange}, {math.MaxInt64, nil, api.ErrRange}, {math.MinInt64, nil, api.ErrRange}, {1, make([]api.Bound, 65), api.ErrMany},
		{2, []api.Bound{bound("1", "1")}, api.ErrShape}, {1, []api.Bound{bound("1", "1"), {}}, api.ErrShape}, {1, []api.Bound{bound("-1", "0"), bound("4/2", "1")}, api.ErrForm}, {1, []api.Bound{bound("1", long), bound("", "1")}, api.ErrLarge},
	} {
		bounded, e := polytope.Bounded(x.n, x.l)
		expect(t, "Bounded", x.n, bounded, e, false, x.e)
		vertices, e := polytope.Vertices(x.n, x.l)
		expect(t, "Vertices", x.n, vertices, e, [][]api.Rat(nil), x.e)
		box, e := polytope.Box(x.n, x.l)
		expect(t, "Box", x.n, box, e, []api.Span(nil), x.e)
		tight, e := polytope.Tight(x.n, x.l, []api.Rat{"x"})
		expect(t, "Tight", x.n, tight, e, []int(nil), x.e)
		redundant, e := polytope.Redundant(x.n, x.l)
		expect(t, "Redundant", x.n, redundant, e, []int(nil), x.e)
		conflict, e := polytope.Conflict(x.n, x.l)
		expect(t, "Conflict", x.n, conflict, e, []int(nil), x.e)
		inside, e := polytope.Inside(x.n, x.l, make([]api.Bound, 65))
		expect(t, "Inside", x.n, inside, e, false, x.e)
	}
}

// Without bounds, nothing is bounded.
func TestNoBounds(t *testing.T) {
	for n := 1; n <= api.MaxUnknowns; n++ {
		expectSet(t, n, nil, set{corners: [][]api.Rat{zeros(n)}})
		inside, e := polytope.Inside(n, nil, nil)
		expect(t, "Inside", n, inside, e, true, api.OK)
		redundant, e := polytope.Redundant(n, nil)
		expect(t, "Redundant", n, redundant, e, []int(nil), api.OK)
		conflict, e := polytope.Conflict(n, nil)
		expect(t, "Conflict", n, conflict, e, []int(nil), api.ErrState)
		tight, e := polytope.Tight(n, nil, zeros(n))
		expect(t, "Tight", n, tight, e, []int(nil), api.OK)
	}
}

// Arguments are not changed, not even behind their ends.
func TestMemory(t *testing.T) {
	cells := []api.Rat{"1", "0", "-1", "0", "0", "1", "0", "-1", "1", "1", "7", "7"}
	most := []api.Rat{"3", "0", "3", "0", "9"}
	build := func() []api.Bound {
		l := make([]api.Bound, 7)
		for i, a := range most {
			l[i] = api.Bound{Row: cells[2*i : 2*i+2], Most: a}
		}
		l[5], l[6] = bound("-77", "1", "1"), bound("9", "9", "9")
		return l
	}
	l, kept := build(), slices.Concat(cells, most)
	for _, m := range []int{5, 6} {
		polytope.Bounded(2, l[:m])
		polytope.Box(2, l[:m])
		polytope.Redundant(2, l[:m])
		polytope.Inside(2, l[:m], l[1:3])
		polytope.Tight(2, l[:m], cells[:2])
		polytope.Conflict(2, l[:m])
		vertices, _ := polytope.Vertices(2, l[:m])
		before := slices.Clone(vertices)
		for i, x := range vertices {
			before[i] = slices.Clone(x)
		}
		for i, x := range vertices {
			for j := range x[:cap(x)] {
				x[:cap(x)][j] = "x"
			}
			if !reflect.DeepEqual(vertices[i+1:], before[i+1:]) {
				t.Error("vertices share memory")
			}
		}
	}
	if !reflect.DeepEqual(l, build()) || !slices.Equal(kept, slices.Concat(cells, most)) {
		t.Error("arguments are changed")
	}
}

// longest returns a number with 12 digits in its numerator or its denominator, or both.
func longest(r *rand.Rand, kind int) api.Rat {
	for {
		a, b := 1e11+r.Int63n(9e11), 1e11+r.Int63n(9e11)
		switch kind {
		case 0:
			b = 1
		case 1:
			a = 1 + r.Int63n(9)
		}
		v := big.NewRat(a, b)
		if v.Num().Int64() != a || v.Denom().Int64() != b {
			continue
		}
		if r.Intn(2) == 0 {
			v.Neg(v)
		}
		return text(v)
	}
}

// No number is too long if those of the bounds have at most 12 digits, and there are at most 3 unknowns and 9 bounds.
func TestLongest(t *testing.T) {
	r := rand.New(rand.NewSource(5))
	far := "1" + digits("0", 300)
	counts := map[api.Errno]int{}
	for i := range 16 {
		number := func() api.Rat { return longest(r, []int{0, 1, 2, r.Intn(3)}[i/4]) }
		n := []int{3, 3, 2, 3}[i%4]
		l := random(r, n, 9, number)
		for j, b := range l {
			if i%2 == 1 { // 0 keeps it
				l[j].Most = text(new(big.Rat).Abs(value(b.Most)))
			}
		}
		s := setOf(n, l, far)
		counts[s.err()]++
		expectSet(t, n, l, s)
		expectReduced(t, n, l, far)
		others := random(r, n, 1, number)
		inside, e := polytope.Inside(n, l, others)
		expect(t, "Inside", [][]api.Bound{l, others}, inside, e, s.implies(others[0]), api.OK)
		for _, corner := range s.corners {
			if tight, e := polytope.Tight(n, l, corner); s.bounded && (len(tight) < n || e != api.OK) {
				t.Errorf("Tight(%d, %s, %s): %d, error %d", n, l, corner, tight, e)
			}
		}
	}
	if counts[api.OK] < 4 || counts[api.ErrEmpty] < 2 {
		t.Errorf("%v", counts)
	}
}

// cube returns the bounds 0 to 1 of all unknowns.
func cube(n int) []api.Bound {
	var l []api.Bound
	for j := range n {
		high, low := bound("1", zeros(n)...), bound("0", zeros(n)...)
		high.Row[j], low.Row[j] = "1", "-1"
		l = append(l, high, low)
	}
	return l
}

// Many unknowns or bounds may be ErrLarge or ErrLimit; everything else is right.
func TestMany(t *testing.T) {
	for n := 1; n <= api.MaxUnknowns; n++ {
		l := cube(n)
		s := set{bounded: true, corners: [][]api.Rat{nil}}
		for range n {
			var longer [][]api.Rat
			for _, corner := range s.corners {
				longer = append(longer, append(slices.Clone(corner), "0"), append(slices.Clone(corner), "1"))
			}
			s.corners = longer
		}
		vertices, e := polytope.Vertices(n, l)
		if n <= 3 || e != api.ErrLimit {
			expect(t, "Vertices", n, vertices, e, s.corners, api.OK)
		}
		box, e := polytope.Box(n, l)
		expect(t, "Box", n, box, e, slices.Repeat([]api.Span{{Low: "0", High: "1"}}, n), api.OK)
		more := append(slices.Clone(l), l...)
		redundant, e := polytope.Redundant(n, more)
		var wanted []int
		for i := range l {
			wanted = append(wanted, len(l)+i)
		}
		expect(t, "Redundant", n, redundant, e, wanted, api.OK)
		all := bound("-1/3", slices.Repeat([]api.Rat{"1"}, n)...)
		conflict, e := polytope.Conflict(n, append(l, all))
		wanted = nil
		for i := range n {
			wanted = append(wanted, 2*i+1)
		}
		if n <= 3 || e != api.ErrLimit {
			expect(t, "Conflict", n, conflict, e, append(wanted, 2*n), api.OK)
		}
	}
}

// A polygon with as many sides as there may be bounds, around a circle.
func TestPolygon(t *testing.T) {
	var l []api.Bound
	var sides []*big.Rat
	for i := range api.MaxBounds {
		side := big.NewRat(int64(i)-31, 16)
		square := new(big.Rat).Mul(side, side)
		down := new(big.Rat).Add(square, big.NewRat(1, 1))
		l = append(l, bound("1", text(new(big.Rat).Quo(new(big.Rat).Sub(big.NewRat(1, 1), square), down)), text(new(big.Rat).Quo(new(big.Rat).Add(side, side), down))))
		sides = append(sides, side)
	}
	vertices, e := polytope.Vertices(2, l)
	if len(vertices) != len(sides) || e != api.OK {
		t.Fatalf("%d vertices, error %d", len(vertices), e)
	}
	touched := map[int]int{}
	for _, x := range vertices {
		tight, e := polytope.Tight(2, l, x)
		if len(tight) != 2 || e != api.OK {
			t.Errorf("%s: %d, error %d", x, tight, e)
		}
		for _, i := range tight {
			touched[i]++
		}
	}
	for i := range l {
		if touched[i] != 2 {
			t.Errorf("the side %d has %d vertices", i, touched[i])
		}
	}
	redundant, e := polytope.Redundant(2, l)
	expect(t, "Redundant", "a polygon", redundant, e, []int(nil), api.OK)
	// A pair is found among all bounds.
	l[62], l[63] = bound("-2", "1", "0"), bound("1", "-1", "0")
	conflict, e := polytope.Conflict(2, l)
	expect(t, "Conflict", "a polygon", conflict, e, []int{62, 63}, api.OK)
}

// P6.3

func TestLaws(t *testing.T) {
	r := rand.New(rand.NewSource(6))
	bounded, empty := 0, 0
	samples(r, 600, func(n int, l []api.Bound, number func() api.Rat) {
		goal := list(n, number)
		vertices, e := polytope.Vertices(n, l)
		best, _, _, f := program.Most(n, l, goal)
		switch e {
		case api.OK:
			bounded++
			at := slices.MaxFunc(vertices, func(x, y []api.Rat) int { return dot(goal, x).Cmp(dot(goal, y)) })
			expect(t, "a goal at a vertex", l, text(dot(goal, at)), f, best, api.OK)
		case api.ErrEmpty:
			empty++
			expectConflict(t, n, l)
		}
		redundant, e := polytope.Redundant(n, l)
		var left []api.Bound
		for i, b := range l {
			if !slices.Contains(redundant, i) {
				left = append(left, b)
			}
		}
		same, f := polytope.Inside(n, left, l)
		expect(t, "the set without redundant bounds", l, same, e, true, f)
		for i := range left {
			same, e := polytope.Inside(n, slices.Delete(slices.Clone(left), i, i+1), left)
			expect(t, "the set without another bound", l, same, e, false, api.OK)
		}
	})
	if bounded < 80 || empty < 80 {
		t.Errorf("%d are bounded, %d empty", bounded, empty)
	}
}

// expectConflict checks that the bounds of a conflict contradict, and that those of a part of it do not.
func expectConflict(t *testing.T, n int, l []api.Bound) {
	t.Helper()
	conflict, e := polytope.Conflict(n, l)
	_, weights, kept, f := program.Feasible(n, chosen(l, conflict))
	if e != api.OK || f != api.OK || kept || len(conflict) > n+1 || program.Refute(n, chosen(l, conflict), weights) != api.OK {
		t.Errorf("Conflict(%d, %s): %d, errors %d, %d", n, l, conflict, e, f)
	}
	for i := range conflict {
		if _, _, kept, _ := program.Feasible(n, chosen(l, slices.Delete(slices.Clone(conflict), i, i+1))); !kept {
			t.Errorf("Conflict(%d, %s): %d without the element %d contradict, too", n, l, conflict, i)
		}
	}
}
