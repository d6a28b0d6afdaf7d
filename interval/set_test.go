package interval_test

import (
	"math/rand"
	"slices"
	"testing"

	"metrolab/api"
	"metrolab/interval"
	"metrolab/ratio"
)

type operation func(a, b []api.Span) ([]api.Span, api.Errno)

func normal(l, _ []api.Span) ([]api.Span, api.Errno) { return interval.Normal(l) }

func expectSet(t *testing.T, what string, got []api.Span, e api.Errno, wanted []api.Span, error api.Errno) {
	t.Helper()
	if !slices.Equal(got, wanted) || e != error {
		t.Errorf("%s: %.40s, error %d instead of %.40s, error %d", what, got, e, wanted, error)
	}
}

// cells tells of a set with ends from 0 to 9 halves which halves it has (2i) and which numbers between them (2i + 1).
type cells [20]bool

var halves = []api.Rat{"0", "1/2", "1", "3/2", "2", "5/2", "3", "7/2", "4", "9/2"}

func cellsOf(l []api.Span) cells {
	var c cells
	for _, a := range l {
		for i := 2 * slices.Index(halves, a.Low); i <= 2*slices.Index(halves, a.High); i++ {
			c[i] = true
		}
	}
	return c
}

// closed adds the numbers as near to which there are numbers as one likes.
func (c cells) closed() cells {
	d := c
	for i := 1; i < len(c); i += 2 {
		if c[i] {
			d[i-1], d[i+1] = true, true
		}
	}
	return d
}

func (c cells) with(d cells, belongs func(x, y bool) bool) cells {
	var both cells
	for i := range c {
		both[i] = belongs(c[i], d[i])
	}
	return both.closed()
}

func expectCells(t *testing.T, what string, a, b, got []api.Span, e api.Errno, wanted cells) {
	t.Helper()
	for i := 1; i < len(got); i++ {
		if slices.Index(halves, got[i-1].High) >= slices.Index(halves, got[i].Low) {
			t.Errorf("%s of %v and %v is not normal: %v", what, a, b, got)
		}
	}
	for _, x := range got {
		if slices.Index(halves, x.Low) < 0 || slices.Index(halves, x.Low) > slices.Index(halves, x.High) {
			t.Fatalf("%s of %v and %v has the span %v", what, a, b, x)
		}
	}
	if e != api.OK || cellsOf(got) != wanted {
		t.Errorf("%s of %v and %v: %v, error %d", what, a, b, got, e)
	}
}

func expectAll(t *testing.T, a, b []api.Span) {
	t.Helper()
	c, d := cellsOf(a), cellsOf(b)
	l, e := interval.Normal(a)
	expectCells(t, "normal set", a, nil, l, e, c)
	l, e = interval.Union(a, b)
	expectCells(t, "union", a, b, l, e, c.with(d, func(x, y bool) bool { return x || y }))
	l, e = interval.Intersection(a, b)
	expectCells(t, "intersection", a, b, l, e, c.with(d, func(x, y bool) bool { return x && y }))
	l, e = interval.Difference(a, b)
	expectCells(t, "difference", a, b, l, e, c.with(d, func(x, y bool) bool { return x && !y }))
}

// small returns all sets of at most two spans with few ends, in any order.
func small() [][]api.Span {
	var spans []api.Span
	for i, low := range halves[:4] {
		for _, high := range halves[i:4] {
			spans = append(spans, span(low, high))
		}
	}
	sets := [][]api.Span{nil}
	for _, a := range spans {
		sets = append(sets, []api.Span{a})
		for _, b := range spans {
			sets = append(sets, []api.Span{a, b})
		}
	}
	return sets
}

func random(r *rand.Rand) []api.Span {
	var l []api.Span
	for range r.Intn(7) {
		low := r.Intn(len(halves))
		high := min(low+r.Intn(4), len(halves)-1)
		l = append(l, span(halves[low], halves[high]))
	}
	return l
}

// P3.2

func TestSets(t *testing.T) {
	for _, a := range small() {
		for _, b := range small() {
			expectAll(t, a, b)
		}
	}
	r := rand.New(rand.NewSource(4))
	for range 3000 {
		expectAll(t, random(r), random(r))
	}
}

func TestSetExamples(t *testing.T) {
	one := []api.Span{span("0", "1"), span("1", "2"), span("4", "4")}
	two := []api.Span{span("0", "2"), span("4", "4")}
	l, e := interval.Normal(one)
	expectSet(t, "Normal", l, e, two, api.OK)
	length, e := interval.Length(one)
	expect(t, "Length", length, e, api.Rat("2"), api.OK)
	l, e = interval.Difference(two, []api.Span{span("1", "3")})
	expectSet(t, "Difference", l, e, []api.Span{span("0", "1"), span("4", "4")}, api.OK)
	l, e = interval.Difference(two, []api.Span{span("1", "1")})
	expectSet(t, "Difference", l, e, two, api.OK)
	// The numbers of spans are in order, their texts are not.
	l, e = interval.Union([]api.Span{span("10", "11"), span("-2", "-1")}, []api.Span{span("9", "19/2"), span("-10", "-9")})
	expectSet(t, "Union", l, e, []api.Span{span("-10", "-9"), span("-2", "-1"), span("9", "19/2"), span("10", "11")}, api.OK)
}

func TestHolds(t *testing.T) {
	r := rand.New(rand.NewSource(5))
	for range 300 {
		l := random(r)
		c := cellsOf(l)
		for i, x := range halves {
			in, e := interval.Holds(l, x)
			expect(t, "Holds", in, e, c[2*i], api.OK)
			beside, _ := ratio.Add(x, "1/7")
			in, e = interval.Holds(l, beside)
			expect(t, "Holds", in, e, c[2*i+1], api.OK)
		}
	}
	many := separate(api.MaxList)
	for i, a := range many {
		in, e := interval.Holds(many, a.High)
		expect(t, "Holds", in, e, true, api.OK)
		between, _ := ratio.Add(a.High, "1/2")
		in, e = interval.Holds(many, between)
		expect(t, "Holds", in, e, false, api.OK)
		if length, e := interval.Length(many[:i+1]); length != ratio.Whole(2*(i+1)) || e != api.OK {
			t.Errorf("Length of %d spans: %s, error %d", i+1, length, e)
		}
	}
}

func TestLength(t *testing.T) {
	for _, x := range []struct {
		l      []api.Span
		length api.Rat
		e      api.Errno
	}{
		{nil, "0", api.OK}, {[]api.Span{span("4", "4")}, "0", api.OK}, {[]api.Span{span("0", "1/2"), span("1/3", "3/4"), span("1/3", "1/3"), span("5", "36/7")}, "25/28", api.OK},
		{[]api.Span{span("2", "3"), span("2", "3"), span("0", "5")}, "5", api.OK},
		{[]api.Span{span("-"+digits("9", 1024), "0")}, digits("9", 1024), api.OK}, {[]api.Span{span("-"+digits("9", 1024), "0"), span("3", "4")}, "", api.ErrLarge},
		{[]api.Span{span("0", "1/"+digits("7", 600)), span("1", "2"), span("3", "1"+digits("0", 500))}, "", api.ErrLarge},
	} {
		length, e := interval.Length(x.l)
		expect(t, "Length", length, e, x.length, x.e)
	}
}

// separate returns n spans of the width 2 from 0 on, with 2 between them.
func separate(n int) []api.Span {
	var l []api.Span
	for i := range n {
		l = append(l, span(ratio.Whole(4*i), ratio.Whole(4*i+2)))
	}
	return l
}

// moved returns spans that begin 1 later and end 2 later.
func moved(l []api.Span) []api.Span {
	var m []api.Span
	for _, a := range l {
		low, _ := ratio.Add(a.Low, "1")
		high, _ := ratio.Add(a.High, "2")
		m = append(m, span(low, high))
	}
	return m
}

func TestLimit(t *testing.T) {
	all := []api.Span{span("-9", "9999")}
	points := func(n int) []api.Span {
		var l []api.Span
		for i := range n {
			l = append(l, span(ratio.Whole(i), ratio.Whole(i)))
		}
		return l
	}
	for i, x := range []struct {
		f    operation
		a, b []api.Span
		n    int
		e    api.Errno
	}{
		{normal, separate(256), nil, 256, api.OK}, {normal, points(256), nil, 256, api.OK},
		{interval.Union, separate(256), separate(256), 256, api.OK}, {interval.Union, separate(255), []api.Span{span("-2", "-1")}, 256, api.OK}, {interval.Union, separate(256), []api.Span{span("-2", "-1")}, 0, api.ErrLimit}, {interval.Union, separate(256), []api.Span{span("3", "3")}, 0, api.ErrLimit}, {interval.Union, separate(256), []api.Span{span("2", "4")}, 255, api.OK}, {interval.Union, separate(256), all, 1, api.OK},
		{interval.Intersection, separate(129), moved(separate(128)), 256, api.OK}, {interval.Intersection, separate(129), moved(separate(129)), 0, api.ErrLimit}, {interval.Intersection, separate(256), separate(256), 256, api.OK}, {interval.Intersection, separate(256), moved(separate(256)), 0, api.ErrLimit},
		{interval.Difference, all, separate(255), 256, api.OK}, {interval.Difference, all, separate(256), 0, api.ErrLimit}, {interval.Difference, all, points(256), 1, api.OK}, {interval.Difference, separate(256), all, 0, api.OK}, {interval.Difference, separate(256), points(256), 256, api.OK},
	} {
		l, e := x.f(x.a, x.b)
		if len(l) != x.n || e != x.e {
			t.Errorf("%d: %d spans, error %d instead of %d, error %d", i, len(l), e, x.n, x.e)
		}
	}
}

func TestSetArguments(t *testing.T) {
	good := separate(256)
	long := append(separate(256), span("x", "1"))
	two := map[string]operation{"Union": interval.Union, "Intersection": interval.Intersection, "Difference": interval.Difference}
	one := map[string]func(l []api.Span) ([]api.Span, api.Errno){
		"Normal": interval.Normal,
		"Holds": func(l []api.Span) ([]api.Span, api.Errno) {
			in, e := interval.Holds(l, "x")
			expect(t, "Holds", in, e, false, e)
			return nil, e
		},
		"Length": func(l []api.Span) ([]api.Span, api.Errno) {
			length, e := interval.Length(l)
			expect(t, "Length", length, e, api.Rat(""), e)
			return nil, e
		},
	}
	for _, x := range wrong {
		bad := slices.Clone(good)
		bad[255] = x.a
		for _, y := range wrong {
			bad[254] = x.a
			bad[255] = y.a
			for name, f := range one {
				l, e := f(bad)
				expectSet(t, name, l, e, nil, x.e)
			}
			for name, f := range two {
				l, e := f([]api.Span{x.a}, []api.Span{y.a})
				expectSet(t, name, l, e, nil, x.e)
			}
		}
		for name, f := range two {
			l, e := f(bad, good)
			expectSet(t, name, l, e, nil, x.e)
			l, e = f(bad, long)
			expectSet(t, name, l, e, nil, x.e)
			l, e = f(good, bad)
			expectSet(t, name, l, e, nil, x.e)
			l, e = f(long, bad)
			expectSet(t, name, l, e, nil, api.ErrMany)
		}
	}
	for name, f := range one {
		l, e := f(long)
		expectSet(t, name, l, e, nil, api.ErrMany)
	}
	for name, f := range two {
		l, e := f(long, good)
		expectSet(t, name, l, e, nil, api.ErrMany)
		l, e = f(good, long)
		expectSet(t, name, l, e, nil, api.ErrMany)
	}
	for _, x := range []struct {
		x api.Rat
		e api.Errno
	}{{"", api.ErrForm}, {"2/2", api.ErrForm}, {digits("7", 1025), api.ErrLarge}} {
		in, e := interval.Holds(good, x.x)
		expect(t, "Holds", in, e, false, x.e)
		in, e = interval.Holds(nil, x.x)
		expect(t, "Holds", in, e, false, x.e)
	}
}

func TestLargeSets(t *testing.T) {
	low, high := span("-1", "1/"+digits("7", 600)), span("0", digits("7", 600))
	for _, f := range []operation{interval.Union, interval.Intersection, interval.Difference} {
		l, e := f([]api.Span{low}, []api.Span{high})
		expectSet(t, "operation", l, e, nil, api.ErrLarge)
		l, e = f([]api.Span{high}, []api.Span{low})
		expectSet(t, "operation", l, e, nil, api.ErrLarge)
	}
	in, e := interval.Holds([]api.Span{high, low}, digits("7", 599))
	expect(t, "Holds", in, e, false, api.ErrLarge)
	in, e = interval.Holds([]api.Span{low, high}, digits("7", 599))
	expect(t, "Holds", in, e, false, api.ErrLarge)
	// Long ends are no harm if they can be compared.
	l, e := interval.Union([]api.Span{span("0", digits("7", 1024))}, []api.Span{span("-"+digits("7", 1024), "0")})
	expectSet(t, "Union", l, e, []api.Span{span("-"+digits("7", 1024), digits("7", 1024))}, api.OK)
}

// Whether ends are too long to be compared does not depend on the order of the sets and their spans.
func TestLargeSetsTurned(t *testing.T) {
	spans := []api.Span{span("-1", "1/"+digits("7", 600)), span("0", digits("7", 600)), span("0", "1"), span("-"+digits("5", 600), "-1"), span("-1/"+digits("3", 600), "0"), span("-5", "6"), span("1/"+digits("7", 600), "1"), span("1", "2")}
	r := rand.New(rand.NewSource(7))
	errors := 0
	for range 500 {
		r.Shuffle(len(spans), func(i, j int) { spans[i], spans[j] = spans[j], spans[i] })
		a, b := spans[:2], spans[2:3+r.Intn(3)]
		turned := slices.Clone(a)
		slices.Reverse(turned)
		for _, f := range []operation{interval.Union, interval.Intersection} {
			l, e := f(a, b)
			m, g := f(b, turned)
			expectSet(t, "turned", m, g, l, e)
			errors += int(e)
		}
	}
	if errors == 0 {
		t.Error("nothing is too long")
	}
}

func TestArgumentsStay(t *testing.T) {
	room := append(separate(9), span("7", "8"), span("1", "3"))
	a, b := room[:5], moved(room)[:7]
	kept, other := slices.Clone(room), slices.Clone(b)
	for _, f := range []operation{normal, interval.Union, interval.Intersection, interval.Difference} {
		l, e := f(a, b)
		wanted := slices.Clone(l)
		a[0], b[0] = span("50", "60"), span("-60", "-50")
		expectSet(t, "result", l, e, wanted, api.OK)
		a[0], b[0] = kept[0], other[0]
		for i := range l {
			l[i] = api.Span{}
		}
	}
	interval.Holds(a, "3")
	interval.Length(a)
	if !slices.Equal(room, kept) || !slices.Equal(b, other) {
		t.Error("arguments are changed")
	}
}

// P3.3

func TestSetLaws(t *testing.T) {
	ok := func(l []api.Span, e api.Errno) []api.Span {
		t.Helper()
		if e != api.OK {
			t.Fatalf("error %d", e)
		}
		return l
	}
	length := func(l []api.Span) api.Rat {
		n, e := interval.Length(l)
		if e != api.OK {
			t.Fatalf("error %d", e)
		}
		return n
	}
	r := rand.New(rand.NewSource(6))
	for range 1000 {
		a, b := random(r), random(r)
		union, both, rest := ok(interval.Union(a, b)), ok(interval.Intersection(a, b)), ok(interval.Difference(a, b))
		alone := ok(interval.Normal(a))
		expectSet(t, "normal again", ok(interval.Normal(alone)), api.OK, alone, api.OK)
		expectSet(t, "union turned", ok(interval.Union(b, a)), api.OK, union, api.OK)
		expectSet(t, "intersection turned", ok(interval.Intersection(b, a)), api.OK, both, api.OK)
		expectSet(t, "union of parts", ok(interval.Union(both, rest)), api.OK, alone, api.OK)
		sum, _ := ratio.Add(length(both), length(rest))
		expect(t, "length of parts", sum, api.OK, length(a), api.OK)
		sum, _ = ratio.Add(length(union), length(both))
		parts, _ := ratio.Add(length(a), length(b))
		expect(t, "length of union", sum, api.OK, parts, api.OK)
	}
}
