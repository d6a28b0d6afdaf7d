package arrange_test

import (
	"fmt"
	"math"
	"math/big"
	"math/rand"
	"reflect"
	"slices"
	"strings"
	"testing"

	"metrolab/api"
	"metrolab/arrange"
)

const (
	steep = 2 * api.MaxCoord
	far   = 4 * api.MaxCoord * api.MaxCoord
)

func line(a, b, c int) arrange.Line { return arrange.Line{A: a, B: b, C: c} }

func at(x, y api.Rat) api.Place { return api.Place{X: x, Y: y} }

// expect compares results; nil and empty slices are printed alike.
func expect(t *testing.T, what string, input any, got, want []any) {
	t.Helper()
	if g, w := fmt.Sprint(got...), fmt.Sprint(want...); g != w {
		t.Errorf("%s(%v): %s instead of %s", what, input, g, w)
	}
}

// wrong are lines that are not right, with their errors.
var wrong = map[arrange.Line]api.Errno{
	line(0, 0, 0): api.ErrZero, line(0, 0, 1): api.ErrZero, line(0, 0, -far): api.ErrZero,
	line(steep+1, 1, 1): api.ErrRange, line(-steep-1, 1, 1): api.ErrRange, line(1, steep+1, 1): api.ErrRange, line(1, -steep-1, 1): api.ErrRange, line(1, 1, far+1): api.ErrRange, line(1, 1, -far-1): api.ErrRange,
	line(0, 0, far+1): api.ErrRange, line(math.MinInt, 0, 0): api.ErrRange, line(0, math.MinInt, 0): api.ErrRange, line(1, 0, math.MinInt): api.ErrRange, line(math.MaxInt, math.MaxInt, math.MaxInt): api.ErrRange, line(1<<32, 1, 1): api.ErrRange, line(1, 1<<32, 1): api.ErrRange,
}

// right are the farthest lines, and one that is near.
var right = []arrange.Line{line(1, 1, 1), line(steep, 0, far), line(-steep, 0, -far), line(0, steep, -far), line(0, -steep, far), line(-steep, steep, far), line(steep-1, steep, far-1)}

// P10.1 and P10.2

func TestErrors(t *testing.T) {
	good := line(1, 2, 3)
	type list = []arrange.Line
	for _, f := range []struct {
		name  string
		lines int // how many it has, or -1 for any number
		call  func(l list) ([]any, api.Errno)
	}{
		{"Check", 1, func(l list) ([]any, api.Errno) { return nil, arrange.Check(l[0]) }},
		{"Normal", 1, func(l list) ([]any, api.Errno) { x, e := arrange.Normal(l[0]); return []any{x}, e }},
		{"Side", 1, func(l list) ([]any, api.Errno) { x, e := arrange.Side(l[0], at("1", "1")); return []any{x}, e }},
		{"Meet", 2, func(l list) ([]any, api.Errno) { x, y, e := arrange.Meet(l[0], l[1]); return []any{x, y}, e }},
		{"Vertices", -1, func(l list) ([]any, api.Errno) { x, e := arrange.Vertices(l); return []any{x}, e }},
		{"Counts", -1, func(l list) ([]any, api.Errno) { x, y, z, e := arrange.Counts(l); return []any{x, y, z}, e }},
		{"Signs", -1, func(l list) ([]any, api.Errno) { x, e := arrange.Signs(l, at("1", "1")); return []any{x}, e }},
		{"Cells", -1, func(l list) ([]any, api.Errno) { x, e := arrange.Cells(l); return []any{x}, e }},
	} {
		check := func(l list, error api.Errno) {
			t.Helper()
			results, e := f.call(l)
			if e != error {
				t.Errorf("%s(%v): error %d instead of %d", f.name, l, e, error)
			}
			for _, x := range results {
				if e != api.OK && !reflect.ValueOf(x).IsZero() {
					t.Errorf("%s(%v): %v beside the error %d", f.name, l, x, e)
				}
			}
		}
		most := f.lines
		if f.lines < 0 {
			most = 3
			check(nil, api.OK)
			check(list{}, api.OK)
			check(right, api.OK)
			check(slices.Repeat(list{good}, 64), api.OK)
			check(slices.Repeat(list{good}, 65), api.ErrMany)
			check(make(list, 65), api.ErrMany)
			check(append(make(list, 64), line(steep+1, 0, 0)), api.ErrMany)
		}
		for _, l := range right {
			check(slices.Repeat(list{l}, most), api.OK)
		}
		for l, e := range wrong {
			for i := range most {
				lines := slices.Repeat(list{good}, most)
				lines[i] = l
				check(lines, e)
				if i+1 < most { // the first line's error comes first
					for last := range wrong {
						lines[most-1] = last
						check(lines, e)
					}
				}
			}
		}
	}
}

// P10.1

func TestNormal(t *testing.T) {
	for l, want := range map[arrange.Line]arrange.Line{line(4, -6, 2): line(2, -3, 1), line(-4, 6, 2): line(2, -3, -1), line(-2, 3, 0): line(2, -3, 0), line(0, -5, 10): line(0, 1, -2), line(0, 5, 3): line(0, 5, 3), line(-3, 0, 0): line(1, 0, 0), line(6, 10, 15): line(6, 10, 15), line(2, 4, 3): line(2, 4, 3), line(0, -steep, far): line(0, 1, -steep), line(-steep, steep, -far): line(1, -1, steep), line(steep, steep-1, far): line(steep, steep-1, far)} {
		got, e := arrange.Normal(l)
		expect(t, "Normal", l, []any{got, e}, []any{want, api.OK})
	}
	r := rand.New(rand.NewSource(1))
	for range 500 {
		l := some(r, 1)[0]
		got, e := arrange.Normal(l)
		common := new(big.Int)
		for _, n := range []int{got.A, got.B, got.C} {
			common.GCD(nil, nil, common, new(big.Int).Abs(big.NewInt(int64(n))))
		}
		if e != api.OK || !same(l, got) || common.Int64() != 1 || got.A < 0 || got.A == 0 && got.B < 0 {
			t.Errorf("Normal(%v): %v, error %d", l, got, e)
		}
	}
}

func TestThrough(t *testing.T) {
	const m = api.MaxCoord
	p := func(x, y int) api.Point { return api.Point{X: x, Y: y} }
	for _, x := range []struct {
		a, b api.Point
		want arrange.Line
		e    api.Errno
	}{
		{p(0, 1), p(2, 0), line(1, 2, 2), api.OK}, {p(3, 5), p(3, -1), line(1, 0, 3), api.OK}, {p(7, 4), p(-2, 4), line(0, 1, 4), api.OK}, {p(0, 0), p(3, 3), line(1, -1, 0), api.OK},
		{p(m, -m), p(-m, m), line(1, 1, 0), api.OK}, {p(m, m), p(-m, m-1), line(1, -2*m, m-2*m*m), api.OK}, {p(m, -m), p(1-m, m), line(2*m, 2*m-1, m), api.OK},
		{p(1, 1), p(1, 1), line(0, 0, 0), api.ErrZero}, {p(0, 0), p(0, 0), line(0, 0, 0), api.ErrZero},
		{p(m+1, 0), p(m+1, 0), line(0, 0, 0), api.ErrRange}, {p(0, -m-1), p(0, 0), line(0, 0, 0), api.ErrRange}, {p(0, 0), p(-m-1, 0), line(0, 0, 0), api.ErrRange}, {p(0, 0), p(0, math.MinInt), line(0, 0, 0), api.ErrRange}, {p(math.MaxInt, 0), p(0, 0), line(0, 0, 0), api.ErrRange},
	} {
		got, e := arrange.Through(x.a, x.b)
		expect(t, "Through", []any{x.a, x.b}, []any{got, e}, []any{x.want, x.e})
	}
}

func TestSide(t *testing.T) {
	three := []arrange.Line{line(1, 0, 0), line(0, 1, 0), line(1, 1, 1)}
	for p, want := range map[api.Place][]int{at("0", "0"): {0, 0, -1}, at("1/2", "1/2"): {1, 1, 0}, at("-1", "5/2"): {-1, 1, 1}, at("1/3", "1"): {1, 1, 1}, at("1/3", "2/3"): {1, 1, 0}, at("-1/3", "0"): {-1, 0, -1}} {
		got, e := arrange.Signs(three, p)
		expect(t, "Signs", p, []any{got, e}, []any{want, api.OK})
	}
	r := rand.New(rand.NewSource(2))
	for range 500 {
		l := some(r, 1+r.Intn(5))
		p := spot{big.NewRat(r.Int63n(2001)-1000, 1+r.Int63n(9)), big.NewRat(r.Int63n(2001)-1000, 1+r.Int63n(9))}
		if kind, place := meet(l[0], l[len(l)-1]); kind == 1 && r.Intn(2) == 0 {
			p = spotOf(place)
		}
		want := signs(l, p)
		got, e := arrange.Signs(l, p.place())
		expect(t, "Signs", []any{l, p.place()}, []any{got, e}, []any{want, api.OK})
		for i, line := range l {
			side, e := arrange.Side(line, p.place())
			expect(t, "Side", []any{line, p.place()}, []any{side, e}, []any{want[i], api.OK})
		}
	}
}

// The errors of a line or a list come before those of a place, and those of X before those of Y.
func TestWrongPlace(t *testing.T) {
	long := api.Rat(strings.Repeat("7", 1025))
	for _, x := range []struct {
		p api.Place
		e api.Errno
	}{{api.Place{}, api.ErrForm}, {at("x", "0"), api.ErrForm}, {at("0", "2/2"), api.ErrForm}, {at("0", "01"), api.ErrForm}, {at("1/0", "0"), api.ErrForm}, {at("", long), api.ErrForm}, {at(long, ""), api.ErrLarge}, {at("0", long), api.ErrLarge}, {at("0", "1/"+long), api.ErrLarge}} {
		side, e := arrange.Side(line(1, 0, 0), x.p)
		expect(t, "Side", x.p, []any{side, e}, []any{0, x.e})
		for _, l := range [][]arrange.Line{nil, {line(1, 0, 0)}, {line(0, 1, 0), line(1, 0, 0)}} {
			sides, e := arrange.Signs(l, x.p)
			expect(t, "Signs", x.p, []any{sides, e}, []any{[]int{}, x.e})
		}
		for l, wanted := range wrong {
			side, e := arrange.Side(l, x.p)
			sides, d := arrange.Signs([]arrange.Line{line(1, 0, 0), l}, x.p)
			expect(t, "Side and Signs", []any{l, x.p}, []any{side, e, sides, d}, []any{0, wanted, []int{}, wanted})
		}
	}
}

// Numbers of 60 digits are never too large, and longer ones give no wrong sides.
func TestLongPlace(t *testing.T) {
	for _, digits := range []int{60, 61, 300, 600, 1024} {
		nines, power := strings.Repeat("9", digits), "1"+strings.Repeat("0", digits-1)
		for _, p := range []api.Place{at(api.Rat(nines), api.Rat("-"+nines)), at(api.Rat(nines+"/"+power), api.Rat("-"+power+"/"+nines)), at(api.Rat("1/"+nines), api.Rat("-1/"+power)), at("0", api.Rat(nines))} {
			for _, l := range right {
				side, e := arrange.Side(l, p)
				sides, d := arrange.Signs([]arrange.Line{l}, p)
				if digits > 60 && e == api.ErrLarge && d == e {
					expect(t, "Side and Signs", []any{l, p}, []any{side, sides}, []any{0, []int{}})
					continue
				}
				want := value(l, spotOf(p)).Sign()
				expect(t, "Side and Signs", []any{l, p}, []any{side, e, sides, d}, []any{want, api.OK, []int{want}, api.OK})
			}
		}
	}
}

func TestMeet(t *testing.T) {
	for _, x := range []struct {
		l, m  arrange.Line
		kind  int
		place api.Place
	}{
		{line(1, 1, 1), line(1, -1, 0), 1, at("1/2", "1/2")}, {line(1, 1, 1), line(2, 2, 2), 2, api.Place{}}, {line(1, 1, 1), line(1, 1, 2), 0, api.Place{}}, {line(1, 1, 1), line(-3, -3, -3), 2, api.Place{}}, {line(1, 1, 1), line(-1, -1, 1), 0, api.Place{}},
		{line(3, 0, 1), line(0, 7, -2), 1, at("1/3", "-2/7")}, {line(0, 1, 0), line(0, -2, 0), 2, api.Place{}}, {line(0, 1, 0), line(0, 1, 1), 0, api.Place{}}, {line(1, 0, 5), line(3, 0, 15), 2, api.Place{}}, {line(1, 0, 0), line(0, 1, 0), 1, at("0", "0")}, {line(2, 4, 6), line(3, 6, 9), 2, api.Place{}},
		{line(steep, steep-1, far), line(steep-1, steep-2, -far), 1, at("-15999880000000000", "15999960000000000")},
	} {
		kind, place, e := arrange.Meet(x.l, x.m)
		expect(t, "Meet", []any{x.l, x.m}, []any{kind, place, e}, []any{x.kind, x.place, api.OK})
	}
	r := rand.New(rand.NewSource(3))
	for range 2000 {
		l := some(r, 2)
		kind, place, e := arrange.Meet(l[0], l[1])
		wanted, there := meet(l[0], l[1])
		expect(t, "Meet", l, []any{kind, place, e}, []any{wanted, there, api.OK})
	}
}

// P10.2

func TestArrangements(t *testing.T) {
	for _, x := range []struct {
		l       []arrange.Line
		places  []api.Place
		v, e, f int
		cells   [][]int
	}{
		{nil, nil, 0, 0, 1, [][]int{{}}},
		{[]arrange.Line{line(1, 0, 0)}, nil, 0, 1, 2, [][]int{{-1}, {1}}},
		{[]arrange.Line{line(1, 0, 0), line(0, 1, 0), line(1, 1, 1)}, []api.Place{at("0", "0"), at("0", "1"), at("1", "0")}, 3, 9, 7, [][]int{{-1, -1, -1}, {-1, 1, -1}, {-1, 1, 1}, {1, -1, -1}, {1, -1, 1}, {1, 1, -1}, {1, 1, 1}}},
		{[]arrange.Line{line(0, 1, 0), line(0, 3, 6), line(0, -1, -1)}, nil, 0, 3, 4, [][]int{{-1, -1, 1}, {1, -1, -1}, {1, -1, 1}, {1, 1, -1}}},
		{[]arrange.Line{line(2, 3, 6), line(-4, -6, -12)}, nil, 0, 1, 2, [][]int{{-1, 1}, {1, -1}}},
		{[]arrange.Line{line(1, 0, 0), line(0, 1, 0), line(1, -1, 0), line(-2, 2, 0)}, []api.Place{at("0", "0")}, 1, 6, 6, [][]int{{-1, -1, -1, 1}, {-1, -1, 1, -1}, {-1, 1, -1, 1}, {1, -1, 1, -1}, {1, 1, -1, 1}, {1, 1, 1, -1}}},
		{[]arrange.Line{line(1, 0, 1), line(3, 0, 2)}, nil, 0, 2, 3, [][]int{{-1, -1}, {-1, 1}, {1, 1}}},
		{[]arrange.Line{line(0, 2, 3), line(0, 1, 2)}, nil, 0, 2, 3, [][]int{{-1, -1}, {1, -1}, {1, 1}}},
		{[]arrange.Line{line(-1, 1, -1), line(3, -3, 2)}, nil, 0, 2, 3, [][]int{{-1, 1}, {1, -1}, {1, 1}}},
		{[]arrange.Line{line(1, 0, 0), line(3, 0, 1), line(0, 2, 1)}, []api.Place{at("0", "1/2"), at("1/3", "1/2")}, 2, 7, 6, [][]int{{-1, -1, -1}, {-1, -1, 1}, {1, -1, -1}, {1, -1, 1}, {1, 1, -1}, {1, 1, 1}}},
	} {
		places, a := arrange.Vertices(x.l)
		v, e, f, b := arrange.Counts(x.l)
		cells, c := arrange.Cells(x.l)
		expect(t, "arrangement", x.l, []any{places, v, e, f, cells, a, b, c}, []any{x.places, x.v, x.e, x.f, x.cells, api.OK, api.OK, api.OK})
	}
}

func TestRandom(t *testing.T) {
	r := rand.New(rand.NewSource(4))
	for i := range 300 {
		l := some(r, 1+r.Intn(6)+i/20)
		places, a := arrange.Vertices(l)
		v, e, f, b := arrange.Counts(l)
		got, c := arrange.Cells(l)
		expect(t, "arrangement", l, []any{places, v, e, f, got, a, b, c}, []any{vertices(l), len(places), edges(l), len(faces(distinct(l))), cells(l), api.OK, api.OK, api.OK})
	}
}

// As many lines as are permitted, with numbers as great as are permitted, and no error.
func TestMany(t *testing.T) {
	r := rand.New(rand.NewSource(5))
	var l []arrange.Line
	for range 64 {
		l = append(l, line(r.Intn(2*steep+1)-steep, r.Intn(2*steep+1)-steep, r.Intn(2*far+1)-far))
	}
	places, a := arrange.Vertices(l)
	v, e, f, b := arrange.Counts(l)
	cells, c := arrange.Cells(l)
	pairs := 64 * 63 / 2
	expect(t, "64 lines", "", []any{len(places), v, e, f, len(cells), a, b, c}, []any{pairs, pairs, 64 * 64, pairs + 65, pairs + 65, api.OK, api.OK, api.OK})
}

// Arguments and their spare capacity do not change, and the parts of results share no memory.
func TestMemory(t *testing.T) {
	l := []arrange.Line{line(2, 0, 2), line(0, -3, 3), line(1, 1, 1), line(9, 9, 9)}
	spare := slices.Clone(l)
	for range 2 {
		arrange.Vertices(spare[:3])
		arrange.Counts(spare[:3])
		arrange.Signs(spare[:3], at("1", "1"))
		cells, _ := arrange.Cells(spare[:3])
		want, _ := arrange.Cells(l[:3])
		if !slices.Equal(l, spare) {
			t.Fatalf("the lines become %v", spare)
		}
		for i, cell := range cells {
			if !slices.Equal(cell, want[i]) {
				t.Fatalf("face %d changes with another one", i)
			}
			clear(cell[:cap(cell)])
		}
	}
}

// P10.3

func TestCounts(t *testing.T) {
	r := rand.New(rand.NewSource(6))
	for range 60 {
		l := some(r, 1+r.Intn(20))
		v, e, f, error := arrange.Counts(l)
		cells, _ := arrange.Cells(l)
		if v-e+f != 1 || f != len(cells) || error != api.OK {
			t.Errorf("Counts(%v): %d, %d, %d, error %d, beside %d faces", l, v, e, f, error, len(cells))
		}
		// a further line cuts as many faces in two as it has edges
		more := append(slices.Clone(l), some(r, 1)[0])
		cut := 0
		if !slices.ContainsFunc(l, func(m arrange.Line) bool { return same(m, more[len(l)]) }) {
			cut = 1 + len(on(more[len(l)], l))
		}
		_, _, g, error := arrange.Counts(more)
		if g != f+cut || error != api.OK {
			t.Errorf("Counts(%v): %d faces, error %d, before %d", more, g, error, f)
		}
	}
}

// Between two faces there is a place with a 0.
func TestBetween(t *testing.T) {
	r := rand.New(rand.NewSource(7))
	for range 100 {
		l := some(r, 1+r.Intn(5))
		parts := faces(l)
		p, q := middle(parts[r.Intn(len(parts))]), middle(parts[r.Intn(len(parts))])
		a, d := arrange.Signs(l, p.place())
		b, e := arrange.Signs(l, q.place())
		if d != api.OK || e != api.OK {
			t.Fatalf("Signs(%v): errors %d, %d", l, d, e)
		}
		for i, line := range l {
			if a[i] == b[i] {
				continue
			}
			sides, e := arrange.Signs(l, between(line, p, q).place())
			if e != api.OK || sides[i] != 0 {
				t.Errorf("Signs(%v) between %v and %v: %v, error %d", l, a, b, sides, e)
			}
		}
	}
}

// A factor does not change a line, but perhaps its sides.
func TestFactor(t *testing.T) {
	r := rand.New(rand.NewSource(8))
	for range 300 {
		l := line(r.Intn(201)-100, 1+r.Intn(100), r.Intn(2001)-1000)
		factor := 1 + r.Intn(1000)
		if r.Intn(2) == 0 {
			factor = -factor
		}
		m := line(factor*l.A, factor*l.B, factor*l.C)
		kind, _, e := arrange.Meet(l, m)
		a, _ := arrange.Normal(l)
		b, _ := arrange.Normal(m)
		if kind != 2 || e != api.OK || a != b {
			t.Errorf("Meet(%v, %v): %d, error %d", l, m, kind, e)
		}
		p := at(api.Rat(fmt.Sprint(r.Intn(20))), api.Rat(fmt.Sprint(r.Intn(20))))
		x, _ := arrange.Side(l, p)
		y, _ := arrange.Side(m, p)
		if (factor < 0) != (x != y) && x != 0 || x*x != y*y {
			t.Errorf("sides of %v and %v: %d and %d", l, m, x, y)
		}
	}
}

// Two points are on their line, and their order does not matter.
func TestPoints(t *testing.T) {
	r := rand.New(rand.NewSource(9))
	for range 300 {
		most := []int{2, 50, api.MaxCoord}[r.Intn(3)]
		point := func() api.Point { return api.Point{X: r.Intn(2*most+1) - most, Y: r.Intn(2*most+1) - most} }
		a, b := point(), point()
		if a == b {
			continue
		}
		l, e := arrange.Through(a, b)
		m, d := arrange.Through(b, a)
		form, c := arrange.Normal(l)
		if l != m || l != form || c != api.OK || d != api.OK || e != api.OK {
			t.Errorf("Through(%v, %v): %v and %v, normal form %v, errors %d, %d, %d", a, b, l, m, form, e, d, c)
		}
		for _, p := range []api.Point{a, b} {
			if side, e := arrange.Side(l, at(api.Rat(fmt.Sprint(p.X)), api.Rat(fmt.Sprint(p.Y)))); side != 0 || e != api.OK {
				t.Errorf("Side(%v) of %v: %d, error %d", l, p, side, e)
			}
		}
	}
}
