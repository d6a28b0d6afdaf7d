package fit_test

import (
	"cmp"
	"fmt"
	"math"
	"math/rand"
	"slices"
	"testing"

	"metrolab/api"
	"metrolab/fit"
)

// sorted has the right fits of the basic hole, those that are preferred first.
func sorted(size int) []fit.Fit {
	l := slices.DeleteFunc(all(size), func(f fit.Fit) bool { return f.Hole.Letter != 4 || fit.Check(f) != api.OK })
	slices.SortFunc(l, func(a, b fit.Fit) int {
		return cmp.Or(cmp.Compare(width(b), width(a)), cmp.Compare(a.Hole.Grade, b.Hole.Grade), cmp.Compare(a.Shaft.Letter, b.Shaft.Letter), cmp.Compare(a.Shaft.Grade, b.Shaft.Grade))
	})
	return l
}

func width(f fit.Fit) int {
	c, _ := fit.Clearance(f)
	return c.High - c.Low
}

func has(f fit.Fit, want api.Limits) bool {
	c, e := fit.Clearance(f)
	return e == api.OK && c.Low >= want.Low && c.High <= want.High
}

// compare compares Choose with the first of the sorted fits that has a clearance, and returns the error.
func compare(t *testing.T, l []fit.Fit, size int, want api.Limits) api.Errno {
	t.Helper()
	first, error := fit.Fit{}, api.ErrNone
	if i := slices.IndexFunc(l, func(f fit.Fit) bool { return has(f, want) }); i >= 0 {
		first, error = l[i], api.OK
	}
	f, e := fit.Choose(size, want)
	expect(t, fmt.Sprint("Choose ", size, want), results(f, e), results(first, error))
	return e
}

// P16.2 and P16.3: the fit that is chosen is the first one of those with the widest clearance.
func TestChoose(t *testing.T) {
	random := rand.New(rand.NewSource(160))
	count := map[api.Errno]int{}
	for _, size := range []int{1, 5, 60, 300, 2500, 8000, 25000, 40000, 90000, 99800, 99960, 99990, 100000} {
		l := sorted(size)
		for range 40 {
			low := random.Intn(300) - 200
			count[compare(t, l, size, limits(low, low+random.Intn(400)))]++
		}
		for i := 0; i < len(l); i += 40 {
			c, e := fit.Clearance(l[i])
			expect(t, "Clearance", results(e), results(api.OK))
			compare(t, l, size, c)
			compare(t, l, size, limits(c.Low+1, c.High))
			compare(t, l, size, limits(c.Low, c.High-1))
			compare(t, l, size, limits(c.Low-1, c.High+1))
		}
		compare(t, l, size, limits(-100000, 100000))
		compare(t, l, size, limits(0, 0))
	}
	if count[api.OK] < 50 || count[api.ErrNone] < 50 {
		t.Errorf("too few of a kind: %v", count)
	}
}

// P16.2

func TestChosen(t *testing.T) {
	for _, x := range []struct {
		size int
		want api.Limits
		f    fit.Fit
		e    api.Errno
	}{
		// tolerances 9 13 21 33: with g6, 7 to 41 is the clearance; with h, 34 is 13 + 21 or 21 + 13
		{25000, limits(7, 41), of(25000, "H6", "g7"), api.OK},
		{25000, limits(0, 34), of(25000, "H6", "h7"), api.OK},
		{25000, limits(0, 17), fit.Fit{}, api.ErrNone},
		{25000, limits(0, 18), of(25000, "H5", "h5"), api.OK},
		{25000, limits(-100000, 100000), of(25000, "H12", "d12"), api.OK},
		{25000, limits(-28, -10), of(25000, "H5", "n5"), api.OK},
		{100000, limits(-100000, 100000), fit.Fit{}, api.ErrNone},
		{99985, limits(-100000, 100000), of(99985, "H5", "d12"), api.OK},
		{25000, limits(1, 0), fit.Fit{}, api.ErrOrder},
		{25000, limits(100000, -100000), fit.Fit{}, api.ErrOrder},
		{25000, limits(-100001, 100000), fit.Fit{}, api.ErrRange},
		{25000, limits(-100000, 100001), fit.Fit{}, api.ErrRange},
		{25000, limits(100001, 0), fit.Fit{}, api.ErrRange},
		{25000, limits(0, -100001), fit.Fit{}, api.ErrRange},
		{25000, limits(math.MinInt, math.MaxInt), fit.Fit{}, api.ErrRange},
		{25000, limits(math.MaxInt, math.MinInt), fit.Fit{}, api.ErrRange},
		{0, limits(0, 34), fit.Fit{}, api.ErrRange},
		{-1, limits(1, 0), fit.Fit{}, api.ErrRange},
		{100001, limits(0, 34), fit.Fit{}, api.ErrRange},
		{math.MinInt, limits(1, 0), fit.Fit{}, api.ErrRange},
		{math.MaxInt, limits(1, 0), fit.Fit{}, api.ErrRange},
	} {
		f, e := fit.Choose(x.size, x.want)
		expect(t, fmt.Sprint("Choose ", x.size, x.want), results(f, e), results(x.f, x.e))
	}
}
