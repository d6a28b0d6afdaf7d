package discs_test

import (
	"fmt"
	"math"
	"math/rand"
	"reflect"
	"slices"
	"strings"
	"testing"

	"metrolab/api"
	"metrolab/discs"
	"metrolab/enclose"
	"metrolab/ratio"
)

// expect compares results; nil and empty slices are printed alike.
func expect(t *testing.T, what string, input any, got, want []any) {
	t.Helper()
	if g, w := fmt.Sprint(got...), fmt.Sprint(want...); g != w {
		t.Errorf("%s(%v): %s instead of %s", what, input, g, w)
	}
}

func digits(s string, n int) api.Rat { return api.Rat(strings.Repeat(s, n/len(s)+1)[:n]) }

// wrong are no discs, with the errors that Check must return.
var wrong = []struct {
	d api.Disc
	e api.Errno
}{
	{api.Disc{}, api.ErrForm}, {disc("", "0", "0"), api.ErrForm}, {disc("0", "", "0"), api.ErrForm}, {disc("0", "0", ""), api.ErrForm}, {disc("2/4", digits("7", 1025), "-1"), api.ErrForm}, {disc(digits("7", 1025), "x", "-1"), api.ErrLarge}, {disc("0", "1/"+digits("7", 1025), "x"), api.ErrLarge},
	{disc("0", "1/-2", digits("7", 1025)), api.ErrForm}, {disc("0", "0", digits("7", 1025)), api.ErrLarge}, {disc("0", "0", "-"+digits("7", 1025)), api.ErrLarge}, {disc("0", "0", "-0"), api.ErrForm}, {disc("0", "0", "-1"), api.ErrRange}, {disc("0", "0", "-1/1000000"), api.ErrRange}, {disc("5", "7/2", "-"+digits("7", 1024)), api.ErrRange},
}

// P12.1

func TestCheck(t *testing.T) {
	for _, x := range wrong {
		expect(t, "Check", x.d, []any{discs.Check(x.d)}, []any{x.e})
	}
	for _, d := range []api.Disc{disc("0", "0", "0"), disc("-1/2", "-7", "1/3"), disc(digits("7", 1024), "-1/"+digits("7", 1024), digits("9", 1024))} {
		expect(t, "Check", d, []any{discs.Check(d)}, []any{api.OK})
	}
}

func TestContains(t *testing.T) {
	for _, x := range []struct {
		d  api.Disc
		p  api.Place
		ok bool
		e  api.Errno
	}{
		{disc("0", "0", "25"), api.Place{X: "3", Y: "4"}, true, api.OK}, {disc("0", "0", "25"), api.Place{X: "-3", Y: "401/100"}, false, api.OK}, {disc("1/2", "-1/3", "1/4"), api.Place{X: "1", Y: "-1/3"}, true, api.OK}, {disc("7", "1", "0"), api.Place{X: "7", Y: "1"}, true, api.OK}, {disc("7", "1", "0"), api.Place{X: "7", Y: "2"}, false, api.OK},
		{disc("0", "0", "1"), api.Place{X: "", Y: "0"}, false, api.ErrForm}, {disc("0", "0", "1"), api.Place{X: "0", Y: "3/3"}, false, api.ErrForm}, {disc("0", "0", "1"), api.Place{X: digits("7", 1025), Y: "x"}, false, api.ErrLarge}, {disc("0", "0", "1"), api.Place{X: "x", Y: digits("7", 1025)}, false, api.ErrForm}, {disc("0", "0", "-1"), api.Place{X: "", Y: "0"}, false, api.ErrRange},
	} {
		ok, e := discs.Contains(x.d, x.p)
		expect(t, "Contains", []any{x.d, x.p}, []any{ok, e}, []any{x.ok, x.e})
	}
	r := rand.New(rand.NewSource(17))
	count := map[bool]int{}
	for range 3000 {
		l := some(r, 2)
		ok, e := discs.Contains(l[0], l[1].Center)
		expect(t, "Contains", l, []any{ok, e}, []any{spotOf(l[1].Center).in(l[0]), api.OK})
		count[ok]++
	}
	if count[true] < 200 || count[false] < 200 {
		t.Errorf("%v", count)
	}
}

func TestRelate(t *testing.T) {
	for _, x := range []struct {
		a, b api.Disc
		n    int
	}{
		{disc("0", "0", "4"), disc("4", "0", "4"), 0}, {disc("0", "0", "5"), disc("4", "0", "5"), 1}, {disc("0", "0", "1"), disc("4", "0", "1"), -1}, {disc("0", "0", "1"), disc("1", "0", "4"), 2}, {disc("1", "0", "4"), disc("0", "0", "1"), 3}, {disc("0", "0", "1"), disc("1/2", "0", "4"), 2}, {disc("1", "1", "2"), disc("1", "1", "2"), 2}, {disc("1", "1", "2"), disc("1", "1", "3"), 2}, {disc("1", "1", "3"), disc("1", "1", "2"), 3},
		{disc("0", "0", "0"), disc("0", "0", "0"), 2}, {disc("0", "0", "0"), disc("1", "0", "0"), -1}, {disc("0", "0", "0"), disc("1", "0", "1"), 2}, {disc("0", "0", "1"), disc("1", "0", "0"), 3}, {disc("0", "0", "1"), disc("1", "0", "1/1000000"), 1}, {disc("0", "0", "2"), disc("2", "2", "2"), 0}, {disc("0", "0", "2"), disc("2", "2", "1999999/1000000"), -1}, {disc("0", "0", "2"), disc("1", "1", "8"), 2}, {disc("0", "0", "2"), disc("1", "1", "7999999/1000000"), 1},
	} {
		n, e := discs.Relate(x.a, x.b)
		expect(t, "Relate", []any{x.a, x.b}, []any{n, e}, []any{x.n, api.OK})
	}
	r := rand.New(rand.NewSource(18))
	count := map[int]int{}
	for range 3000 {
		l := some(r, 2)
		n, e := discs.Relate(l[0], l[1])
		expect(t, "Relate", l, []any{n, e}, []any{relate(l[0], l[1]), api.OK})
		count[n]++
	}
	for n := -1; n <= 3; n++ {
		if count[n] < 50 {
			t.Errorf("%v", count)
		}
	}
	for _, x := range wrong {
		for _, pair := range [][2]api.Disc{{x.d, disc("0", "0", "1")}, {disc("0", "0", "1"), x.d}, {x.d, disc("", "", "")}, {x.d, disc("0", "0", "-1")}} {
			n, e := discs.Relate(pair[0], pair[1])
			expect(t, "Relate", pair, []any{n, e}, []any{0, x.e})
		}
	}
}

func TestVerify(t *testing.T) {
	r := rand.New(rand.NewSource(19))
	count := map[[2]bool]int{}
	for range 250 {
		l := some(r, 1+r.Intn(4))
		for _, w := range append(witnesses(len(l)), discs.Witness{Side: 1}, discs.Witness{I: len(l) - 1, J: len(l) - 1, Side: -1}) {
			want := proves(l, w)
			ok, e := discs.Verify(l, w)
			expect(t, "Verify", []any{l, w}, []any{ok, e}, []any{want, api.OK})
			_, named := place(l, w)
			if w.I != w.J {
				count[[2]bool{named, ok}]++
			}
		}
	}
	for _, x := range [][2]bool{{false, false}, {true, false}, {true, true}} {
		if count[x] < 200 {
			t.Errorf("%v", count)
		}
	}
}

// TestSides has witnesses whose sides are told apart: left and right of the way from the first center to the second one.
func TestSides(t *testing.T) {
	a, b := disc("0", "0", "5"), disc("4", "0", "5") // they meet at (2, 1), on the left, and (2, -1)
	for _, x := range []struct {
		l    []api.Disc
		w    discs.Witness
		want bool
	}{
		{[]api.Disc{a, b, disc("2", "1", "0")}, discs.Witness{I: 0, J: 1, Side: 1}, true}, {[]api.Disc{a, b, disc("2", "1", "0")}, discs.Witness{I: 0, J: 1, Side: -1}, false}, {[]api.Disc{a, b, disc("2", "1", "0")}, discs.Witness{I: 0, J: 1}, false},
		{[]api.Disc{b, a, disc("2", "1", "0")}, discs.Witness{I: 0, J: 1, Side: 1}, false}, {[]api.Disc{b, a, disc("2", "1", "0")}, discs.Witness{I: 0, J: 1, Side: -1}, true},
		{[]api.Disc{a, disc("2", "-1", "0"), b}, discs.Witness{I: 0, J: 2, Side: 1}, false}, {[]api.Disc{a, disc("2", "-1", "0"), b}, discs.Witness{I: 0, J: 2, Side: -1}, true},
		{[]api.Disc{a, disc("2", "0", "1"), b}, discs.Witness{I: 0, J: 2, Side: 1}, true}, {[]api.Disc{a, disc("2", "0", "1"), b}, discs.Witness{I: 0, J: 2, Side: -1}, true}, {[]api.Disc{a, disc("2", "0", "999/1000"), b}, discs.Witness{I: 0, J: 2, Side: -1}, false},
		// Circles that touch, from outside and from inside, have a place with the side 0 alone.
		{[]api.Disc{disc("0", "0", "4"), disc("4", "0", "4")}, discs.Witness{I: 0, J: 1}, true}, {[]api.Disc{disc("0", "0", "4"), disc("4", "0", "4")}, discs.Witness{I: 0, J: 1, Side: 1}, false}, {[]api.Disc{disc("0", "0", "9"), disc("1", "0", "4")}, discs.Witness{I: 0, J: 1}, true}, {[]api.Disc{disc("1", "0", "4"), disc("0", "0", "9"), disc("3", "0", "0")}, discs.Witness{I: 0, J: 1}, true}, {[]api.Disc{disc("1", "0", "4"), disc("0", "0", "9"), disc("3", "1", "0")}, discs.Witness{I: 0, J: 1}, false},
		{[]api.Disc{disc("0", "0", "0"), disc("3", "4", "25")}, discs.Witness{I: 0, J: 1}, true}, {[]api.Disc{disc("3", "4", "25"), disc("0", "0", "0")}, discs.Witness{I: 0, J: 1}, true},
		// Circles with the same center, and those that do not meet, have no place.
		{[]api.Disc{a, a}, discs.Witness{I: 0, J: 1}, false}, {[]api.Disc{a, a}, discs.Witness{I: 0, J: 1, Side: 1}, false}, {[]api.Disc{a, a}, discs.Witness{I: 0, J: 0}, true}, {[]api.Disc{disc("1", "1", "0"), disc("1", "1", "0")}, discs.Witness{I: 0, J: 1}, false}, {[]api.Disc{a, disc("0", "0", "1")}, discs.Witness{I: 0, J: 1}, false}, {[]api.Disc{a, disc("1/2", "0", "1")}, discs.Witness{I: 0, J: 1, Side: 1}, false}, {[]api.Disc{a, disc("9", "0", "1")}, discs.Witness{I: 0, J: 1}, false},
		{[]api.Disc{a, b}, discs.Witness{I: 0, J: 0, Side: 1}, false}, {[]api.Disc{disc("0", "0", "16"), disc("4", "0", "16")}, discs.Witness{I: 0, J: 0}, true}, {[]api.Disc{disc("0", "0", "16"), disc("4", "0", "16")}, discs.Witness{I: 1, J: 1}, true}, {[]api.Disc{disc("0", "0", "16"), disc("4", "0", "16")}, discs.Witness{I: 1, J: 1, Side: -1}, false},
	} {
		ok, e := discs.Verify(x.l, x.w)
		expect(t, "Verify", []any{x.l, x.w}, []any{ok, e}, []any{x.want, api.OK})
		if proves(x.l, x.w) != x.want {
			t.Errorf("the model tells %v of %v, %v", !x.want, x.l, x.w)
		}
	}
}

func TestVerifyErrors(t *testing.T) {
	l := []api.Disc{disc("0", "0", "5"), disc("4", "0", "5"), disc("2", "-5", "16")}
	for _, x := range []struct {
		w discs.Witness
		e api.Errno
	}{
		{discs.Witness{I: 3, J: 1, Side: 2}, api.ErrRange}, {discs.Witness{I: -1, J: 1}, api.ErrRange}, {discs.Witness{I: 0, J: 3}, api.ErrRange}, {discs.Witness{I: 2, J: -1, Side: -2}, api.ErrRange}, {discs.Witness{I: math.MinInt, J: math.MaxInt}, api.ErrRange}, {discs.Witness{I: 0, J: math.MaxInt}, api.ErrRange},
		{discs.Witness{I: 1, J: 0}, api.ErrOrder}, {discs.Witness{I: 2, J: 1, Side: 2}, api.ErrOrder}, {discs.Witness{I: 0, J: 1, Side: 2}, api.ErrArg}, {discs.Witness{I: 0, J: 0, Side: -2}, api.ErrArg}, {discs.Witness{I: 0, J: 1, Side: math.MinInt}, api.ErrArg}, {discs.Witness{I: 1, J: 1, Side: math.MaxInt}, api.ErrArg},
	} {
		ok, e := discs.Verify(l, x.w)
		expect(t, "Verify", x.w, []any{ok, e}, []any{false, x.e})
	}
}

// TestListErrors has those of lists, which come before those of a witness (P12.1, P12.2).
func TestListErrors(t *testing.T) {
	check := func(l []api.Disc, error api.Errno) {
		t.Helper()
		ok, e := discs.Verify(l, discs.Witness{I: -1, J: 99, Side: 7})
		common, w, f := discs.Common(l)
		bad, g := discs.Contradiction(l)
		spare, h := discs.Redundant(l)
		expect(t, "all functions", l, []any{ok, e, common, w, f, bad, g, spare, h}, []any{false, error, false, discs.Witness{}, error, []int{}, error, []int{}, error})
	}
	good := disc("0", "0", "1")
	check(nil, api.ErrEmpty)
	check([]api.Disc{}, api.ErrEmpty)
	check(make([]api.Disc, 65), api.ErrMany)
	check(slices.Repeat([]api.Disc{good}, 65), api.ErrMany)
	for _, x := range wrong {
		check([]api.Disc{x.d}, x.e)
		check(append(slices.Repeat([]api.Disc{good}, 63), x.d), x.e)
		check(append(slices.Repeat([]api.Disc{good}, 64), x.d), api.ErrMany)
		for _, y := range wrong {
			check([]api.Disc{good, x.d, y.d, good}, x.e)
		}
	}
	all := slices.Repeat([]api.Disc{good}, 64)
	ok, w, e := discs.Common(all)
	expect(t, "Common", "64 equal discs", []any{ok, w, e}, []any{true, discs.Witness{}, api.OK})
	spare, e := discs.Redundant(all)
	if len(spare) != 63 || spare[0] != 1 || e != api.OK {
		t.Errorf("Redundant: %v, error %d", spare, e)
	}
}

// P12.2

func TestExamples(t *testing.T) {
	for _, x := range []struct {
		l     []api.Disc
		ok    bool
		w     discs.Witness
		bad   []int
		spare []int
	}{
		{[]api.Disc{disc("0", "0", "4"), disc("4", "0", "4")}, true, discs.Witness{I: 0, J: 1}, nil, nil},
		{[]api.Disc{disc("0", "0", "5"), disc("4", "0", "5")}, true, discs.Witness{I: 0, J: 1, Side: 1}, nil, nil},
		{[]api.Disc{disc("0", "0", "1"), disc("4", "0", "1")}, false, discs.Witness{}, []int{0, 1}, nil},
		{[]api.Disc{disc("0", "0", "1"), disc("2", "0", "1"), disc("1", "5/3", "1")}, false, discs.Witness{}, []int{0, 1, 2}, nil},
		{[]api.Disc{disc("0", "0", "5"), disc("4", "0", "5"), disc("2", "-5", "16")}, true, discs.Witness{I: 0, J: 1, Side: -1}, nil, nil},
		// Two discs come before three, whatever their indices are.
		{[]api.Disc{disc("0", "0", "1"), disc("2", "0", "1"), disc("1", "5/3", "1"), disc("1", "-5/3", "1")}, false, discs.Witness{}, []int{2, 3}, nil},
		{[]api.Disc{disc("9", "9", "1000"), disc("1", "5/3", "1"), disc("2", "0", "1"), disc("9", "9", "1000"), disc("0", "0", "1")}, false, discs.Witness{}, []int{1, 2, 4}, []int{0, 3}},
		{[]api.Disc{disc("0", "0", "9"), disc("1", "0", "1"), disc("1", "0", "1")}, true, discs.Witness{}, nil, []int{0, 2}},
		{[]api.Disc{disc("1", "0", "1"), disc("0", "0", "4"), disc("1", "0", "1"), disc("1", "0", "0"), disc("1", "0", "0")}, true, discs.Witness{I: 0, J: 0}, nil, []int{0, 1, 2, 4}},
		{[]api.Disc{disc("7", "7", "0")}, true, discs.Witness{}, nil, nil},
	} {
		ok, w, e := discs.Common(x.l)
		bad, f := discs.Contradiction(x.l)
		spare, g := discs.Redundant(x.l)
		expect(t, "Common, Contradiction, Redundant", x.l, []any{ok, w, e, bad, f, spare, g}, []any{x.ok, x.w, api.OK, x.bad, api.OK, x.spare, api.OK})
	}
}

func TestRandom(t *testing.T) {
	r := rand.New(rand.NewSource(20))
	count := map[string]int{}
	for range 600 {
		l := some(r, 1+r.Intn(6))
		if r.Intn(4) == 0 {
			l = triple(r)
		}
		wanted, first := common(l)
		ok, w, e := discs.Common(l)
		bad, f := discs.Contradiction(l)
		spare, g := discs.Redundant(l)
		expect(t, "Common, Contradiction, Redundant", l, []any{ok, w, e, bad, f, spare, g}, []any{wanted, first, api.OK, contradiction(l), api.OK, redundant(l), api.OK})
		count[fmt.Sprint("contradiction of ", len(bad))]++
		if ok && w.I < w.J {
			count[fmt.Sprint("side ", w.Side)]++
		}
	}
	for _, what := range []string{"contradiction of 0", "contradiction of 2", "contradiction of 3", "side 0", "side 1", "side -1"} {
		if count[what] < 10 {
			t.Errorf("%v", count)
		}
	}
}

// TestMemory: no list is changed, also not behind its end, and results are new.
func TestMemory(t *testing.T) {
	long := []api.Disc{disc("0", "0", "1"), disc("2", "0", "1"), disc("1", "5/3", "1"), disc("1", "0", "100"), disc("9", "9", "9"), disc("8", "8", "8")}
	same := slices.Clone(long)
	for range 2 {
		discs.Common(long[:4])
		discs.Verify(long[:4], discs.Witness{I: 0, J: 1})
		bad, _ := discs.Contradiction(long[:4])
		spare, _ := discs.Redundant(long[:4])
		if !reflect.DeepEqual(bad, []int{0, 1, 2}) || !reflect.DeepEqual(spare, []int{3}) {
			t.Errorf("%v, %v", bad, spare)
		}
		bad[0], spare[0] = 7, 7
	}
	if !slices.Equal(long, same) {
		t.Errorf("the list becomes %v", long)
	}
}

// P12.3

func has(t *testing.T, l []api.Disc) bool {
	t.Helper()
	ok, w, e := discs.Common(l)
	if e != api.OK {
		t.Errorf("%v: error %d", l, e)
	}
	if proof, e := discs.Verify(l, w); ok && (!proof || e != api.OK) {
		t.Errorf("%v: the witness %v does not verify, error %d", l, w, e)
	}
	return ok
}

func without(l []api.Disc, indices ...int) []api.Disc {
	var rest []api.Disc
	for i, d := range l {
		if !slices.Contains(indices, i) {
			rest = append(rest, d)
		}
	}
	return rest
}

func TestConsequences(t *testing.T) {
	r := rand.New(rand.NewSource(21))
	count := map[bool]int{}
	for n := range 400 {
		l := some(r, 1+r.Intn(12))
		switch {
		case n < 5:
			l = some(r, 64)
		case n < 50:
			l = triple(r)
		}
		ok := has(t, l)
		count[ok]++
		bad, e := discs.Contradiction(l)
		if e != api.OK || ok != (len(bad) == 0) {
			t.Errorf("%v: common %v, contradiction %v, error %d", l, ok, bad, e)
		}
		if !ok {
			var some []api.Disc
			for _, i := range bad {
				some = append(some, l[i])
			}
			if has(t, some) {
				t.Errorf("%v: the contradiction %v has a common place", l, bad)
			}
			for i := range some {
				if !has(t, without(some, i)) {
					t.Errorf("%v: the contradiction %v does not need all", l, bad)
				}
			}
		}
		spare, e := discs.Redundant(l)
		if e != api.OK || has(t, without(l, spare...)) != ok {
			t.Errorf("%v: without the redundant ones %v it is not %v, error %d", l, spare, ok, e)
		}
		for i := range l {
			l[i].Square = text(plus(value(l[i].Square), whole(r.Intn(3))))
		}
		if ok && !has(t, l) {
			t.Errorf("%v: grown discs have no common place", l)
		}
	}
	if count[true] < 50 || count[false] < 50 {
		t.Errorf("%v", count)
	}
}

// TestEnclosing: all points are as near to a place as the least circle around them says, and not nearer.
func TestEnclosing(t *testing.T) {
	r := rand.New(rand.NewSource(22))
	for range 100 {
		most := []int{1, 3, 20, api.MaxCoord}[r.Intn(4)]
		var l []api.Point
		for range 1 + r.Intn(12) {
			l = append(l, api.Point{X: r.Intn(2*most+1) - most, Y: r.Intn(2*most+1) - most})
		}
		center, square, _, e := enclose.Circle(l)
		around := func(square api.Rat) []api.Disc {
			var found []api.Disc
			for _, p := range l {
				found = append(found, disc(ratio.Whole(p.X), ratio.Whole(p.Y), square))
			}
			return found
		}
		if e != api.OK || !has(t, around(square)) {
			t.Errorf("%v: discs with the square %s have no common place, error %d", l, square, e)
		}
		for _, d := range around(square) {
			if ok, e := discs.Contains(d, center); !ok || e != api.OK {
				t.Errorf("%v: the center %v is not in %v, error %d", l, center, d, e)
			}
		}
		if square != "0" && has(t, around(text(times(value(square), over(whole(999999), whole(1000000)))))) {
			t.Errorf("%v: discs with less than the square %s have a common place", l, square)
		}
	}
}
