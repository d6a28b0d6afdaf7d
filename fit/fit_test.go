package fit_test

import (
	"fmt"
	"math"
	"math/rand"
	"strings"
	"testing"

	"metrolab/api"
	"metrolab/fit"
	"metrolab/grades"
)

// expect compares results.
func expect(t *testing.T, what string, got, want []any) {
	t.Helper()
	if g, w := fmt.Sprintf("%+v", got), fmt.Sprintf("%+v", want); g != w {
		t.Errorf("%s: %s instead of %s", what, g, w)
	}
}

func results(l ...any) []any { return l }

func limits(low, high int) api.Limits { return api.Limits{Low: low, High: high} }

// class returns a class with a text.
func class(text string) grades.Class {
	c, e := grades.Parse(text)
	if e != api.OK {
		panic(text)
	}
	return c
}

func of(size int, hole, shaft string) fit.Fit {
	return fit.Fit{Size: size, Hole: class(hole), Shaft: class(shaft)}
}

var none api.Limits

// wrong has fits that are not right, each with a first error.
var wrong = []struct {
	f fit.Fit
	e api.Errno
}{
	{fit.Fit{}, api.ErrRange},
	{of(0, "H7", "g6"), api.ErrRange},
	{of(-25000, "H7", "g6"), api.ErrRange},
	{of(100001, "H7", "g6"), api.ErrRange},
	{of(math.MinInt, "H7", "g6"), api.ErrRange},
	{of(math.MaxInt, "h7", "g6"), api.ErrRange},
	{fit.Fit{Size: 0, Hole: grades.Class{Letter: 10}, Shaft: class("g6")}, api.ErrRange},
	{fit.Fit{Size: 1, Hole: grades.Class{Hole: true, Letter: 10, Grade: 4}, Shaft: grades.Class{Grade: 4}}, api.ErrArg},
	{fit.Fit{Size: 1, Hole: grades.Class{Letter: -1, Grade: 7}, Shaft: class("D5")}, api.ErrArg},
	{fit.Fit{Size: 25000, Hole: grades.Class{Hole: true, Letter: 4, Grade: 4}, Shaft: grades.Class{Letter: 10, Grade: 7}}, api.ErrRange},
	{fit.Fit{Size: 25000, Hole: grades.Class{Hole: true, Letter: 4, Grade: math.MaxInt}, Shaft: class("g6")}, api.ErrRange},
	{fit.Fit{Size: 25000, Hole: class("h7"), Shaft: grades.Class{Letter: math.MinInt, Grade: 7}}, api.ErrArg},
	{fit.Fit{Size: 25000, Hole: class("h7"), Shaft: grades.Class{Letter: 4, Grade: 13}}, api.ErrRange},
	{of(25000, "h7", "g6"), api.ErrForm},
	{of(25000, "H7", "G6"), api.ErrForm},
	{of(25000, "h7", "G6"), api.ErrForm},
	{of(1, "h12", "d12"), api.ErrForm},
	{of(100000, "H12", "H12"), api.ErrForm},
	{of(100000, "H5", "g6"), api.ErrRange},
	{of(1, "P12", "k5"), api.ErrRange},
	{of(5, "H7", "d6"), api.ErrRange},
	{of(99900, "N8", "p12"), api.ErrRange},
}

func TestWrong(t *testing.T) {
	if fit.Loose != 0 || fit.Between != 1 || fit.Tight != 2 {
		t.Error("kinds")
	}
	for _, x := range wrong {
		what := fmt.Sprintf("%+v", x.f)
		a, b, e := fit.Limits(x.f)
		expect(t, "Limits "+what, results(a, b, e, fit.Check(x.f)), results(none, none, x.e, x.e))
		c, e := fit.Clearance(x.f)
		expect(t, "Clearance "+what, results(c, e), results(none, x.e))
		k, e := fit.Kind(x.f)
		expect(t, "Kind "+what, results(k, e), results(0, x.e))
		s, e := fit.Swap(x.f)
		expect(t, "Swap "+what, results(s, e), results(fit.Fit{}, x.e))
		for _, hole := range []int{25010, -1} {
			n, ok, e := fit.Pair(x.f, hole, 24990)
			expect(t, "Pair "+what, results(n, ok, e), results(0, false, x.e))
		}
		text, e := fit.Text(x.f)
		expect(t, "Text "+what, results(text, e), results("", x.e))
	}
}

// P16.1

func TestExamples(t *testing.T) {
	for _, x := range []struct {
		f                      fit.Fit
		hole, shaft, clearance api.Limits
		kind                   int
	}{
		{of(25000, "H7", "g6"), limits(25000, 25021), limits(24980, 24993), limits(7, 41), fit.Loose},
		{of(25000, "H7", "n6"), limits(25000, 25021), limits(25019, 25032), limits(-32, 2), fit.Between},
		{of(25000, "G6", "h7"), limits(25007, 25020), limits(24979, 25000), limits(7, 41), fit.Loose},
		{of(25000, "H5", "n5"), limits(25000, 25009), limits(25019, 25028), limits(-28, -10), fit.Tight},
		{of(25000, "H5", "h5"), limits(25000, 25009), limits(24991, 25000), limits(0, 18), fit.Loose},
		{of(10000, "J6", "j6"), limits(9996, 10004), limits(9996, 10004), limits(-8, 8), fit.Between},
		{of(10000, "H8", "n5"), limits(10000, 10023), limits(10013, 10019), limits(-19, 10), fit.Between},
		{of(1, "H5", "k5"), limits(1, 5), limits(2, 6), limits(-5, 3), fit.Between},
		{of(99985, "H5", "h5"), limits(99985, 100000), limits(99970, 99985), limits(0, 30), fit.Loose},
	} {
		what := fmt.Sprintf("%+v", x.f)
		a, b, e := fit.Limits(x.f)
		expect(t, "Limits "+what, results(a, b, e, fit.Check(x.f)), results(x.hole, x.shaft, api.OK, api.OK))
		c, e := fit.Clearance(x.f)
		expect(t, "Clearance "+what, results(c, e), results(x.clearance, api.OK))
		k, e := fit.Kind(x.f)
		expect(t, "Kind "+what, results(k, e), results(x.kind, api.OK))
	}
}

// P16.1: a clearance that ends at 0 is loose if it begins there, and tight if it only ends there.
func TestKinds(t *testing.T) {
	seen := map[string]bool{}
	for _, size := range []int{2000, 3500, 7000, 12000, 20000, 40000, 60000, 90000} {
		for _, f := range all(size) {
			c, e := fit.Clearance(f)
			k, g := fit.Kind(f)
			kind := fit.Between
			switch {
			case c.Low >= 0:
				kind = fit.Loose
			case c.High <= 0:
				kind = fit.Tight
			}
			expect(t, fmt.Sprintf("%+v", f), results(e, k, g), results(api.OK, kind, api.OK))
			seen[fmt.Sprint(kind, c.Low == 0, c.High == 0)] = true
		}
	}
	for _, s := range []string{"0 true false", "0 false false", "1 false false", "2 false true", "2 false false"} {
		if !seen[s] {
			t.Errorf("no fit is %s", s)
		}
	}
}

// all has all fits of a size whose classes are of the right kind.
func all(size int) []fit.Fit {
	var l []fit.Fit
	for i := range 80 {
		for j := range 80 {
			l = append(l, fit.Fit{Size: size, Hole: grades.Class{Hole: true, Letter: i / 8, Grade: 5 + i%8}, Shaft: grades.Class{Letter: j / 8, Grade: 5 + j%8}})
		}
	}
	return l
}

// P16.1 and P16.3: the swapped fit has the same clearance, and swapped again it is the fit.
func TestSwap(t *testing.T) {
	for _, x := range []struct {
		f, swapped fit.Fit
		e          api.Errno
	}{
		{of(25000, "H7", "g6"), of(25000, "G6", "h7"), api.OK},
		{of(25000, "G6", "h7"), of(25000, "H7", "g6"), api.OK},
		{of(1, "H5", "k5"), fit.Fit{}, api.ErrRange},
		{of(99900, "H5", "d12"), fit.Fit{}, api.ErrRange},
	} {
		s, e := fit.Swap(x.f)
		expect(t, fmt.Sprintf("Swap %+v", x.f), results(s, e), results(x.swapped, x.e))
	}
	for _, size := range []int{1, 10, 200, 2000, 40000, 99700, 99980} {
		for _, f := range all(size) {
			if fit.Check(f) == api.OK {
				swap(t, f)
			}
		}
	}
}

func swap(t *testing.T, f fit.Fit) {
	t.Helper()
	what := fmt.Sprintf("Swap %+v", f)
	other := fit.Fit{Size: f.Size, Hole: grades.Class{Hole: true, Letter: f.Shaft.Letter, Grade: f.Shaft.Grade}, Shaft: grades.Class{Letter: f.Hole.Letter, Grade: f.Hole.Grade}}
	error := fit.Check(other)
	if error != api.OK {
		other = fit.Fit{}
	}
	s, e := fit.Swap(f)
	expect(t, what, results(s, e), results(other, error))
	if e != api.OK {
		return
	}
	back, e := fit.Swap(s)
	before, _ := fit.Clearance(f)
	after, g := fit.Clearance(s)
	expect(t, what, results(back, e, after, g), results(f, api.OK, before, api.OK))
}

// P16.1

func TestPair(t *testing.T) {
	for _, x := range []struct {
		f                      fit.Fit
		hole, shaft, clearance int
		ok                     bool
		e                      api.Errno
	}{
		{of(25000, "H7", "g6"), 25010, 24990, 20, true, api.OK},
		{of(25000, "H7", "g6"), 25000, 24993, 7, true, api.OK},
		{of(25000, "H7", "g6"), 25021, 24980, 41, true, api.OK},
		{of(25000, "H7", "g6"), 24999, 24993, 6, false, api.OK},
		{of(25000, "H7", "g6"), 25022, 24993, 29, false, api.OK},
		{of(25000, "H7", "g6"), 25021, 24979, 42, false, api.OK},
		{of(25000, "H7", "g6"), 25000, 24994, 6, false, api.OK},
		{of(25000, "H7", "g6"), 24990, 25010, -20, false, api.OK},
		{of(25000, "H7", "g6"), 0, 100000, -100000, false, api.OK},
		{of(25000, "H7", "g6"), 100000, 0, 100000, false, api.OK},
		{of(25000, "H7", "g6"), -1, 24990, 0, false, api.ErrRange},
		{of(25000, "H7", "g6"), 25010, -1, 0, false, api.ErrRange},
		{of(25000, "H7", "g6"), 100001, 24990, 0, false, api.ErrRange},
		{of(25000, "H7", "g6"), 25010, 100001, 0, false, api.ErrRange},
		{of(25000, "H7", "g6"), math.MinInt, math.MaxInt, 0, false, api.ErrRange},
		{of(25000, "H7", "g6"), math.MaxInt, math.MinInt, 0, false, api.ErrRange},
		{of(99985, "H5", "h5"), 100000, 99985, 15, true, api.OK},
	} {
		n, ok, e := fit.Pair(x.f, x.hole, x.shaft)
		expect(t, fmt.Sprintf("Pair %+v", x), results(n, ok, e), results(x.clearance, x.ok, x.e))
	}
}

// P16.3: both ends of the clearance are attained, and pairs that are within their limits have a clearance within it.
func TestClearance(t *testing.T) {
	random := rand.New(rand.NewSource(16))
	for _, size := range []int{800, 4000, 20000, 90000} {
		for _, f := range all(size) {
			if random.Intn(20) > 0 {
				continue
			}
			what := fmt.Sprintf("%+v", f)
			c, e := fit.Clearance(f)
			hole, shaft, g := fit.Limits(f)
			expect(t, what, results(e, g), results(api.OK, api.OK))
			low, ok, e := fit.Pair(f, hole.Low, shaft.High)
			expect(t, what, results(low, ok, e), results(c.Low, true, api.OK))
			high, ok, e := fit.Pair(f, hole.High, shaft.Low)
			expect(t, what, results(high, ok, e), results(c.High, true, api.OK))
			for range 50 {
				a, b := near(random, hole), near(random, shaft)
				n, ok, e := fit.Pair(f, a, b)
				inside := a >= hole.Low && a <= hole.High && b >= shaft.Low && b <= shaft.High
				expect(t, what, results(n, ok, e), results(a-b, inside, api.OK))
				if ok && (n < c.Low || n > c.High) {
					t.Errorf("%s: %d less %d", what, a, b)
				}
			}
		}
	}
}

// near returns a number within limits or close to them.
func near(random *rand.Rand, l api.Limits) int {
	return l.Low - 2 + random.Intn(l.High-l.Low+5)
}

// P16.2 and P16.3: texts are read back.
func TestText(t *testing.T) {
	for _, x := range []struct {
		f    fit.Fit
		text string
	}{
		{of(25000, "H7", "g6"), "25 H7/g6"}, {of(8500, "H12", "f11"), "8.5 H12/f11"}, {of(3001, "E12", "h5"), "3.001 E12/h5"}, {of(99999-400, "J5", "d12"), "99.599 J5/d12"},
		{of(1, "H5", "k5"), "0.001 H5/k5"}, {of(10, "H5", "h5"), "0.01 H5/h5"}, {of(100, "D5", "p5"), "0.1 D5/p5"}, {of(100000, "K5", "h5"), "100 K5/h5"}, {of(10000, "P10", "j10"), "10 P10/j10"}, {of(1020, "M8", "n9"), "1.02 M8/n9"},
	} {
		s, e := fit.Text(x.f)
		f, g := fit.Parse(x.text)
		expect(t, x.text, results(s, e, f, g), results(x.text, api.OK, x.f, api.OK))
	}
	for _, size := range []int{1, 7, 999, 1000, 25000, 31415, 99910, 100000} {
		for _, f := range all(size) {
			s, e := fit.Text(f)
			expect(t, "Text", results(e), results(fit.Check(f)))
			if e == api.OK {
				back, e := fit.Parse(s)
				expect(t, s, results(back, e), results(f, api.OK))
			}
		}
	}
}

// P16.2

func TestParse(t *testing.T) {
	for _, text := range []string{
		"", " ", "/", " /", "25", "25 ", "25 H7", "25 H7/", "25 /g6", " H7/g6", "H7/g6", "25H7/g6",
		" 25 H7/g6", "25 H7/g6 ", "25  H7/g6", "25 H7 /g6", "25 H7/ g6", "25\tH7/g6", "25 H7/g6\n", "25 H7/g6/g6", "25 H7//g6", "25 H7-g6", "25 mm H7/g6", "25 H7/g6\x00",
		"25.0 H7/g6", "25. H7/g6", "025 H7/g6", "+25 H7/g6", "-25 H7/g6", "50/2 H7/g6", "2.5e1 H7/g6", "25,5 H7/g6", ".5 H7/g6", "25.0005 H7/g6", "25.00000 H7/g6", "0 H7/g6", "-0 H7/g6", "100.001 H7/g6", "1000000 H7/g6", "99999999999999999999 H7/g6", "x H7/g6",
		"25 h7/g6", "25 H7/G6", "25 h7/G6", "25 H07/g6", "25 H4/g6", "25 H7/g13", "25 I7/g6", "25 H7/i6", "25 7H/g6", "25 H7/6g", "25 HH7/g6", "25 H7/g 6",
		"100 H5/g6", "0.005 H7/d6", "0.001 P12/k5", strings.Repeat("2", 4096), strings.Repeat("2", 4089) + " H7/g6",
	} {
		f, e := fit.Parse(text)
		expect(t, text, results(f, e), results(fit.Fit{}, api.ErrSyntax))
	}
	for _, text := range []string{strings.Repeat("x", 4097), "25 H7/g6" + strings.Repeat(" ", 4089), strings.Repeat("0", 5000)} {
		f, e := fit.Parse(text)
		expect(t, "long", results(f, e), results(fit.Fit{}, api.ErrLong))
	}
}
