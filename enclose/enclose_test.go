package enclose_test

import (
	"fmt"
	"math"
	"math/big"
	"math/rand"
	"reflect"
	"slices"
	"strings"
	"testing"

	"metrolab/api"
	"metrolab/enclose"
)

// both calls a test with circles (P11.1) and with spheres (P11.2).
func both(t *testing.T, test func(t *testing.T, s shape)) {
	for _, s := range []shape{circle(), sphere()} {
		t.Run(s.name, func(t *testing.T) { test(t, s) })
	}
}

// expect compares results; nil and empty slices are printed alike.
func expect(t *testing.T, what string, input any, got, want []any) {
	t.Helper()
	if g, w := fmt.Sprint(got...), fmt.Sprint(want...); g != w {
		t.Errorf("%s(%v): %s instead of %s", what, input, g, w)
	}
}

// as leaves out all but the first coordinates, and makes missing ones 0.
func (s shape) as(l ...[]int) [][]int {
	var found [][]int
	for _, p := range l {
		found = append(found, slices.Concat(p, make([]int, s.size))[:s.size])
	}
	return found
}

func (s shape) none() []api.Rat { return make([]api.Rat, s.size) }

// P11.1 and P11.2

func TestAround(t *testing.T) {
	both(t, func(t *testing.T, s shape) {
		r := rand.New(rand.NewSource(11))
		count := map[bool]int{}
		for range 2000 {
			l := cloud(r, s.size, 1+r.Intn(s.size+1))
			center, square, e := s.around(l)
			m, ok := around(l)
			if ok {
				expect(t, "around", l, []any{center, square, e}, []any{m.texts(), text(m.square), api.OK})
			} else {
				expect(t, "around", l, []any{center, square, e}, []any{s.none(), "", api.ErrZero})
			}
			count[ok]++
		}
		if count[true] < 200 || count[false] < 200 {
			t.Errorf("%v", count)
		}
	})
}

// TestExamples has those of the document.
func TestExamples(t *testing.T) {
	center, square, e := enclose.Around(points([][]int{{0, 0}, {4, 0}, {0, 2}}))
	expect(t, "Around", "", []any{center, square, e}, []any{api.Place{X: "2", Y: "1"}, "5", api.OK})
	for _, x := range []struct {
		s       shape
		l       [][]int
		center  []api.Rat
		square  api.Rat
		support []int
	}{
		{circle(), [][]int{{0, 0}, {4, 0}, {0, 2}}, []api.Rat{"2", "1"}, "5", []int{1, 2}},
		{circle(), [][]int{{0, 0}, {6, 0}, {3, 1}}, []api.Rat{"3", "0"}, "9", []int{0, 1}},
		{circle(), [][]int{{0, 0}, {6, 0}, {3, 5}}, []api.Rat{"3", "8/5"}, "289/25", []int{0, 1, 2}},
		{sphere(), [][]int{{0, 0, 0}, {2, 0, 0}, {0, 2, 0}, {0, 0, 2}}, []api.Rat{"2/3", "2/3", "2/3"}, "8/3", []int{1, 2, 3}},
	} {
		center, square, support, e := x.s.least(x.l)
		expect(t, "least "+x.s.name, x.l, []any{center, square, support, e}, []any{x.center, x.square, x.support, api.OK})
	}
}

// TestFar has the longest ways, so that squared distances, and their products, are as great as possible.
func TestFar(t *testing.T) {
	both(t, func(t *testing.T, s shape) {
		const far = api.MaxCoord
		for _, l := range [][][]int{
			s.as([]int{far, far, far}, []int{-far, -far, -far}), s.as([]int{far, far, far}, []int{-far, -far, -far}, []int{-far, far, 1}),
			s.as([]int{far, far, far}, []int{-far, -far, far}, []int{-far, far, -far}, []int{far, -far, -far}),
			s.as([]int{far, far, far}, []int{far - 1, far, far}, []int{-far, -far, -far}, []int{-far, 1 - far, 1 - far}, []int{far, -far, 0}),
			s.as([]int{far, 0, 0}, []int{far - 1, 0, 0}, []int{far, 1, 0}, []int{far, 0, 1}, []int{-far, 7, 9}, []int{-far, 8, 9}),
		} {
			if len(l) <= s.size+1 {
				if m, ok := around(l); ok {
					center, square, e := s.around(l)
					expect(t, "around", l, []any{center, square, e}, []any{m.texts(), text(m.square), api.OK})
				}
			}
			s.compare(t, l)
		}
	})
}

// compare compares the least circle or sphere with the model, and returns the length of its support.
func (s shape) compare(t *testing.T, l [][]int) int {
	t.Helper()
	m, indices := least(l)
	center, square, support, e := s.least(l)
	expect(t, "least", l, []any{center, square, support, e}, []any{m.texts(), text(m.square), indices, api.OK})
	return len(support)
}

func TestLeast(t *testing.T) {
	both(t, func(t *testing.T, s shape) {
		r := rand.New(rand.NewSource(12))
		count := map[int]int{}
		for range 400 {
			count[s.compare(t, cloud(r, s.size, 1+r.Intn(7)))]++
		}
		for n := range s.size + 1 {
			if count[n+1] < 8 {
				t.Errorf("lengths of supports: %v", count)
			}
		}
	})
}

// TestFirst: of all supports, the one with the fewest indices comes first, and then that with the least ones.
func TestFirst(t *testing.T) {
	both(t, func(t *testing.T, s shape) {
		for _, x := range []struct {
			l    [][]int
			want []int
		}{
			{s.as([]int{0, 0}, []int{0, 0}), []int{0}},
			{s.as([]int{1, 1}, []int{2, 0}, []int{0, 0}, []int{0, 2}, []int{2, 2}), []int{1, 3}},
			{s.as([]int{0, 5}, []int{-4, -3}, []int{4, -3}, []int{0, -5}), []int{0, 3}},
			{s.as([]int{0, 5}, []int{-4, -3}, []int{4, -3}, []int{3, -4}), []int{0, 1, 2}},
			{s.as([]int{3, -4}, []int{4, -3}, []int{-4, -3}, []int{0, 5}, []int{4, -3}), []int{0, 2, 3}},
			{s.as([]int{0, 0}, []int{5, 0}, []int{0, 0}, []int{5, 0}, []int{2, 1}), []int{0, 1}},
			{s.as([]int{3, 4}, []int{5, 0}, []int{4, 3}, []int{-4, 3}, []int{0, -5}), []int{0, 3, 4}},
		} {
			_, _, support, e := s.least(x.l)
			expect(t, "least", x.l, []any{support, e}, []any{x.want, api.OK})
		}
	})
	for _, x := range []struct {
		l    [][]int
		want []int
	}{
		{[][]int{{1, 1, 1}, {-1, -1, 1}, {1, -1, -1}, {-1, 1, -1}}, []int{0, 1, 2, 3}},
		{[][]int{{1, 1, 1}, {-1, -1, 1}, {1, -1, -1}, {-1, 1, -1}, {1, 1, -1}}, []int{1, 4}},
		{[][]int{{0, 0, 5}, {3, 4, 0}, {5, 0, 0}, {-3, 4, 0}, {0, -5, 0}, {4, 3, 0}}, []int{1, 3, 4}},
		{[][]int{{2, 2, 1}, {2, 1, 2}, {1, 2, 2}, {2, -1, -2}, {-2, 2, -1}, {-2, -1, 2}}, []int{0, 3, 4, 5}},
	} {
		sphere().compare(t, x.l)
		_, _, support, e := enclose.Sphere(spots(x.l))
		expect(t, "Sphere", x.l, []any{support, e}, []any{x.want, api.OK})
	}
}

// TestVerify tries all lists of indices, with the center and the square of their own circle or sphere, and with others.
func TestVerify(t *testing.T) {
	both(t, func(t *testing.T, s shape) {
		r := rand.New(rand.NewSource(13))
		count := map[bool]int{}
		for range 60 {
			l := cloud(r, s.size, 1+r.Intn(6))
			smallest, _ := least(l)
			for _, indices := range lists(len(l), s.size+1) {
				_, want := supports(l, indices)
				m, ok := around(chosen(l, indices))
				if !ok {
					m = smallest
				}
				center, square := m.texts(), text(m.square)
				is, e := s.verify(l, center, square, indices)
				expect(t, "verify", []any{l, center, square, indices}, []any{is, e}, []any{want, api.OK})
				count[is]++
				is, e = s.verify(l, center, text(new(big.Rat).Add(m.square, number(1))), indices)
				expect(t, "verify a greater square", []any{l, indices}, []any{is, e}, []any{false, api.OK})
				i := r.Intn(s.size)
				center[i] = text(new(big.Rat).Add(m.center[i], big.NewRat(1, 7)))
				is, e = s.verify(l, center, square, indices)
				expect(t, "verify another center", []any{l, center, indices}, []any{is, e}, []any{false, api.OK})
			}
		}
		if count[true] < 60 || count[false] < 60 {
			t.Errorf("%v", count)
		}
	})
}

func TestVerifyErrors(t *testing.T) {
	both(t, func(t *testing.T, s shape) {
		long := api.Rat(strings.Repeat("7", 1025))
		l := s.as([]int{1, 1}, []int{2, 0}, []int{0, 0}, []int{0, 2}, []int{2, 2}, []int{1, 0})
		center := append([]api.Rat{"1", "1"}, make([]api.Rat, s.size)...)[:s.size]
		if s.size == 3 {
			center[2] = "0"
		}
		for _, x := range []struct {
			i       int // the coordinate that is replaced, or -1
			by      api.Rat
			square  api.Rat
			support []int
			ok      bool
			e       api.Errno
		}{
			{-1, "", "2", []int{1, 3}, true, api.OK}, {-1, "", "2", []int{2, 4}, true, api.OK}, {-1, "", "2", []int{1, 2, 3}, true, api.OK}, {-1, "", "2", []int{1, 2, 4}, true, api.OK}, {-1, "", "2", []int{1, 2}, false, api.OK}, {-1, "", "2", []int{0, 1, 3}, false, api.OK}, {-1, "", "2", []int{0}, false, api.OK},
			{-1, "", "-2", []int{1, 3}, false, api.OK}, {-1, "", long[:1024], []int{1, 3}, false, api.OK}, {0, "1/" + long[:1024], "2", []int{1, 3}, false, api.OK},
			{0, "x", "", nil, false, api.ErrForm}, {0, long, "", nil, false, api.ErrLarge}, {1, "2/2", long, nil, false, api.ErrForm}, {s.size - 1, "1/" + long, "x", nil, false, api.ErrLarge}, {s.size - 1, "", long, nil, false, api.ErrForm},
			{-1, "", "", nil, false, api.ErrForm}, {-1, "", "4/2", []int{9}, false, api.ErrForm}, {-1, "", long, nil, false, api.ErrLarge},
			{-1, "", "2", nil, false, api.ErrEmpty}, {-1, "", "2", []int{}, false, api.ErrEmpty}, {-1, "", "2", []int{0, 1, 2, 3, 4}[:s.size+2], false, api.ErrMany}, {-1, "", "2", []int{-1, 9, 9, 9, 9}[:s.size+2], false, api.ErrMany}, {-1, "", "2", make([]int, 1000), false, api.ErrMany},
			{-1, "", "2", []int{6}, false, api.ErrRange}, {-1, "", "2", []int{-1, 3}, false, api.ErrRange}, {-1, "", "2", []int{1, math.MaxInt}, false, api.ErrRange}, {-1, "", "2", []int{3, 1, 6}, false, api.ErrOrder}, {-1, "", "2", []int{3, 6, 1}, false, api.ErrRange}, {-1, "", "2", []int{3, math.MinInt}, false, api.ErrRange}, {-1, "", "2", []int{3, 3}, false, api.ErrOrder}, {-1, "", "2", []int{1, 3, 2}, false, api.ErrOrder},
		} {
			at := slices.Clone(center)
			if x.i >= 0 {
				at[x.i] = x.by
			}
			ok, e := s.verify(l, at, x.square, x.support)
			expect(t, "verify", []any{at, x.square, x.support}, []any{ok, e}, []any{x.ok, x.e})
		}
	})
}

// TestErrors: those of the points come first, and nothing is beside them.
func TestErrors(t *testing.T) {
	both(t, func(t *testing.T, s shape) {
		check := func(l [][]int, own, others api.Errno) {
			t.Helper()
			none := fmt.Sprint(s.none())
			center, square, e := s.around(l)
			if e != own || e != api.OK && (fmt.Sprint(center) != none || square != "") {
				t.Errorf("around(%v): %v, %s, error %d instead of %d", l, center, square, e, own)
			}
			center, square, support, e := s.least(l)
			if e != others || e != api.OK && (fmt.Sprint(center) != none || square != "" || len(support) > 0) {
				t.Errorf("least(%v): %v, %s, %v, error %d instead of %d", l, center, square, support, e, others)
			}
			if others == api.OK {
				others = api.ErrForm
			}
			ok, e := s.verify(l, make([]api.Rat, s.size), "x", []int{-1})
			expect(t, "verify", l, []any{ok, e}, []any{false, others})
		}
		zeros := func(n int) [][]int { return s.as(make([][]int, n)...) }
		check(nil, api.ErrEmpty, api.ErrEmpty)
		check([][]int{}, api.ErrEmpty, api.ErrEmpty)
		check(zeros(1), api.OK, api.OK)
		check(zeros(2), api.ErrZero, api.OK)
		check(zeros(s.size+1), api.ErrZero, api.OK)
		check(zeros(s.size+2), api.ErrMany, api.OK)
		check(zeros(64), api.ErrMany, api.OK)
		check(zeros(65), api.ErrMany, api.ErrMany)
		check(s.as([]int{0, 1}, []int{1, 1}, []int{2, 1}), api.ErrZero, api.OK)
		for i := range s.size {
			for _, n := range []int{api.MaxCoord + 1, -api.MaxCoord - 1, math.MinInt, math.MaxInt, 1 << 32} {
				for _, count := range []int{1, 2, s.size + 2, 64} {
					l := zeros(count)
					l[count-1][i] = n
					check(l, api.ErrRange, api.ErrRange)
				}
				l := zeros(65)
				l[0][i] = n
				check(l, api.ErrMany, api.ErrMany)
			}
		}
	})
	_, _, e := enclose.Around(points([][]int{{0, 0}, {1, 0}, {0, 1}, {1, 1}}))
	_, _, f := enclose.AroundSpots(spots([][]int{{0, 0, 0}, {1, 0, 0}, {0, 1, 0}, {1, 1, 0}}))
	_, _, g := enclose.AroundSpots(spots([][]int{{0, 0, 0}, {1, 0, 0}, {0, 1, 0}, {0, 0, 1}, {1, 1, 1}}))
	expect(t, "Around, AroundSpots", "", []any{e, f, g}, []any{api.ErrMany, api.ErrZero, api.ErrMany})
}

// TestMemory: no list is changed, also not behind its end, and no result shares one with another.
func TestMemory(t *testing.T) {
	long := points([][]int{{0, 0}, {6, 0}, {3, 5}, {9, 9}, {7, 7}})
	support := []int{0, 1, 2, 9, 8}
	same, sameSupport := slices.Clone(long), slices.Clone(support)
	enclose.Around(long[:3])
	center, square, first, _ := enclose.Circle(long[:3])
	ok, e := enclose.VerifyCircle(long[:3], center, square, support[:3])
	expect(t, "VerifyCircle", long[:3], []any{ok, e}, []any{true, api.OK})
	if !slices.Equal(long, same) || !slices.Equal(support, sameSupport) {
		t.Errorf("the lists become %v, %v", long, support)
	}
	first[0] = 7
	_, _, second, _ := enclose.Circle(long[:3])
	if !reflect.DeepEqual(second, []int{0, 1, 2}) {
		t.Errorf("support %v", second)
	}
	solid := spots([][]int{{1, 1, 1}, {-1, -1, 1}, {1, -1, -1}, {-1, 1, -1}, {9, 9, 9}})
	sameSolid := slices.Clone(solid)
	enclose.AroundSpots(solid[:4])
	middle, most, all, _ := enclose.Sphere(solid[:4])
	enclose.VerifySphere(solid[:4], middle, most, all)
	if !slices.Equal(solid, sameSolid) {
		t.Errorf("the list becomes %v", solid)
	}
}

// P11.3

// farthest is the greatest squared distance of points from a place.
func farthest(l [][]int, from row) *big.Rat {
	most := new(big.Rat)
	for _, p := range l {
		if d := distance(p, from); d.Cmp(most) > 0 {
			most = d
		}
	}
	return most
}

func TestConsequences(t *testing.T) {
	both(t, func(t *testing.T, s shape) {
		r := rand.New(rand.NewSource(14))
		for n := range 100 {
			l := cloud(r, s.size, 1+r.Intn(64))
			if n < 10 {
				l = cloud(r, s.size, 64)
			}
			center, square, support, e := s.least(l)
			ok, f := s.verify(l, center, square, support)
			if !ok || e != api.OK || f != api.OK {
				t.Fatalf("%v: %v, errors %d, %d: what is found does not verify", l, support, e, f)
			}
			var place row
			for _, c := range center {
				place = append(place, value(c))
			}
			if farthest(l, place).Cmp(value(square)) != 0 {
				t.Errorf("%v: no point, or one beyond it, is as far from %v as %s", l, center, square)
			}
			for _, p := range chosen(l, support) {
				if distance(p, place).Cmp(value(square)) != 0 {
					t.Errorf("%v: the point %v of the support is not on the ball", l, p)
				}
			}
			for range 5 {
				place[r.Intn(s.size)].Add(place[r.Intn(s.size)], big.NewRat(r.Int63n(9)-4, 1+r.Int63n(99)))
				if other := farthest(l, place); other.Cmp(value(square)) < 0 || other.Cmp(value(square)) == 0 && !same(place, center) {
					t.Errorf("%v: another ball around %v has only %s, not %s", l, place, other, square)
				}
			}
		}
	})
}

func same(place row, center []api.Rat) bool {
	return slices.EqualFunc(place, center, func(v *big.Rat, a api.Rat) bool { return text(v) == a })
}

// TestOneMore: a point in the ball changes nothing, and no point makes it smaller.
func TestOneMore(t *testing.T) {
	both(t, func(t *testing.T, s shape) {
		r := rand.New(rand.NewSource(15))
		for range 150 {
			l := cloud(r, s.size, 2+r.Intn(20))
			for _, p := range l {
				for i := range p {
					p[i] = p[i] / 2 * 2
				}
			}
			center, square, _, e := s.least(l)
			var middle []int
			for i := range s.size {
				middle = append(middle, (l[0][i]+l[1][i])/2)
			}
			again, squareAgain, _, f := s.least(append(slices.Clone(l), middle))
			expect(t, "least with a point inside", l, []any{again, squareAgain, f}, []any{center, square, e})
			more := cloud(r, s.size, 1)[0]
			_, greater, _, g := s.least(append(slices.Clone(l), more))
			if g != api.OK || value(greater).Cmp(value(square)) < 0 {
				t.Errorf("%v: with %v, the square is %s instead of %s, error %d", l, more, greater, square, g)
			}
		}
	})
}

func TestPlaneInSpace(t *testing.T) {
	r := rand.New(rand.NewSource(16))
	for range 200 {
		l, height := cloud(r, 2, 1+r.Intn(20)), r.Intn(9)
		var raised [][]int
		for _, p := range l {
			raised = append(raised, append(slices.Clone(p), height))
		}
		center, square, support, e := circle().least(l)
		inSpace, squareInSpace, supportInSpace, f := sphere().least(raised)
		expect(t, "Sphere", raised, []any{inSpace, squareInSpace, supportInSpace, f}, []any{append(center, text(number(height))), square, support, e})
	}
}
