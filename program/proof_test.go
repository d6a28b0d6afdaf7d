package program_test

import (
	"math/big"
	"math/rand"
	"slices"
	"testing"

	"metrolab/api"
	"metrolab/program"
	"metrolab/ratio"
)

// P5.1

func TestShapesOfProofs(t *testing.T) {
	long := digits("7", 1025)
	l := []api.Bound{bound("3", "1", "0"), bound("3", "0", "1"), bound("-9", "-1", "-1")}
	for i, x := range []struct {
		l []api.Rat
		e api.Errno
	}{
		{nil, api.ErrShape}, {[]api.Rat{"1"}, api.ErrShape}, {[]api.Rat{"x"}, api.ErrShape}, {[]api.Rat{"x", "", long, "1"}, api.ErrShape},
		{[]api.Rat{"1", "", long}, api.ErrForm}, {[]api.Rat{"4/2", "1", "1"}, api.ErrForm}, {[]api.Rat{"0", long, ""}, api.ErrLarge}, {[]api.Rat{"-1", "0", "-1/" + long}, api.ErrLarge},
	} {
		if e := program.Refute(2, l, x.l); e != x.e {
			t.Errorf("Refute %d: %d instead of %d", i, e, x.e)
		}
		three := []api.Bound{bound("3", "1", "0", "0"), bound("-9", "0", "0", "0")}
		if e := program.Verify(3, three, x.l); e != x.e {
			t.Errorf("Verify %d: %d instead of %d", i, e, x.e)
		}
	}
	good := program.Optimum{Goal: []api.Rat{"1", "1"}, Value: "6", Point: []api.Rat{"3", "3"}, Weights: []api.Rat{"1", "1"}}
	for i, x := range []struct {
		change func(x *program.Optimum)
		e      api.Errno
	}{
		{func(x *program.Optimum) {}, api.OK},
		{func(x *program.Optimum) { x.Goal = x.Goal[:1] }, api.ErrShape},
		{func(x *program.Optimum) { x.Point = append(x.Point, "1") }, api.ErrShape},
		{func(x *program.Optimum) { x.Weights = nil }, api.ErrShape},
		{func(x *program.Optimum) {
			x.Weights, x.Goal, x.Value = []api.Rat{"1", "1", "1"}, []api.Rat{"x", long}, ""
		}, api.ErrShape},
		{func(x *program.Optimum) { x.Goal, x.Value = []api.Rat{"1", long}, "" }, api.ErrLarge},
		{func(x *program.Optimum) { x.Value, x.Point = "", []api.Rat{long, "3"} }, api.ErrForm},
		{func(x *program.Optimum) { x.Value, x.Point = "-"+long, []api.Rat{"", "3"} }, api.ErrLarge},
		{func(x *program.Optimum) { x.Point, x.Weights = []api.Rat{"3", "6/2"}, []api.Rat{long, "1"} }, api.ErrForm},
		{func(x *program.Optimum) { x.Point, x.Weights = []api.Rat{"4", long}, []api.Rat{"", "1"} }, api.ErrLarge},
		{func(x *program.Optimum) { x.Weights = []api.Rat{"-1", "01"} }, api.ErrForm},
		{func(x *program.Optimum) { x.Value = "7" }, api.ErrProof},
		{func(x *program.Optimum) { x.Value, x.Point = "5", []api.Rat{"3", "2"} }, api.ErrProof},
		{func(x *program.Optimum) { x.Point = []api.Rat{"4", "2"} }, api.ErrProof},
		{func(x *program.Optimum) { x.Point = []api.Rat{"3", "2"} }, api.ErrProof},
		{func(x *program.Optimum) { x.Weights = []api.Rat{"2", "0"} }, api.ErrProof},
		{func(x *program.Optimum) { x.Goal = []api.Rat{"0", "2"} }, api.ErrProof},
	} {
		o := program.Optimum{Goal: slices.Clone(good.Goal), Value: good.Value, Point: slices.Clone(good.Point), Weights: slices.Clone(good.Weights)}
		x.change(&o)
		if e := program.VerifyMost(2, l[:2], o); e != x.e {
			t.Errorf("VerifyMost %d: %d instead of %d", i, e, x.e)
		}
	}
	// Negative weights prove nothing, though they add up.
	twice := []api.Bound{bound("3", "1"), bound("3", "1")}
	o := program.Optimum{Goal: []api.Rat{"1"}, Value: "3", Point: []api.Rat{"3"}, Weights: []api.Rat{"2", "-1"}}
	if e := program.VerifyMost(1, twice, o); e != api.ErrProof {
		t.Errorf("VerifyMost with a negative weight: %d", e)
	}
	if e := program.Refute(1, []api.Bound{bound("1", "1"), bound("2", "1")}, []api.Rat{"1", "-1"}); e != api.ErrProof {
		t.Errorf("Refute with a negative weight: %d", e)
	}
	if e := program.Refute(1, nil, nil); e != api.ErrProof {
		t.Errorf("Refute without bounds: %d", e)
	}
	if e := program.Refute(1, []api.Bound{bound("0", "0")}, []api.Rat{"1"}); e != api.ErrProof {
		t.Errorf("Refute with 0: %d", e)
	}
}

func verdict(holds bool) api.Errno {
	if holds {
		return api.OK
	}
	return api.ErrProof
}

// Points and weights of all kinds are told apart as the definitions do.
func TestProofs(t *testing.T) {
	r := rand.New(rand.NewSource(2))
	counts := map[string]int{}
	expect := func(what string, e api.Errno, holds bool) {
		t.Helper()
		if e != verdict(holds) {
			t.Errorf("%s: %d instead of %t", what, e, holds)
		}
		if holds {
			counts[what]++
		}
	}
	for i := range 6000 {
		number := numbers(r)[i%5]
		n, m := 1+r.Intn(3), r.Intn(5)
		l := random(r, n, m, number)
		point, weights, goal := list(n, number), list(m, number), list(n, number)
		expect("Verify", program.Verify(n, l, point), keeps(l, point))
		expect("Refute", program.Refute(n, l, weights), contradict(n, l, weights))
		x := program.Optimum{Goal: goal, Value: number(), Point: point, Weights: weights}
		expect("VerifyMost", program.VerifyMost(n, l, x), prove(l, x))
		value, point, weights, e := program.Most(n, l, goal)
		if e != api.OK {
			if _, weights, ok, _ := program.Feasible(n, l); !ok {
				expect("Refute", program.Refute(n, l, weights), true)
				weights[r.Intn(m)] = number()
				expect("Refute", program.Refute(n, l, weights), contradict(n, l, weights))
			}
			continue
		}
		x = program.Optimum{Goal: goal, Value: value, Point: point, Weights: weights}
		expect("VerifyMost", program.VerifyMost(n, l, x), true)
		switch r.Intn(4) {
		case 0:
			x.Value = number()
		case 1:
			x.Point[r.Intn(n)] = number()
		case 2:
			x.Goal[r.Intn(n)] = number()
		default:
			if m > 0 {
				x.Weights[r.Intn(m)] = number()
			}
		}
		expect("VerifyMost", program.VerifyMost(n, l, x), prove(l, x))
		expect("Verify", program.Verify(n, l, x.Point), keeps(l, x.Point))
	}
	for _, what := range []string{"Verify", "Refute", "VerifyMost"} {
		if counts[what] < 300 {
			t.Errorf("%s holds only %d times", what, counts[what])
		}
	}
}

// tooLong reports whether a sum of products is ErrLarge if it is added up term by term.
func tooLong(a, b []api.Rat, less api.Rat) bool {
	sum := api.Rat("0")
	for i := range a {
		if a[i] == "0" || b[i] == "0" {
			continue
		}
		product, e := ratio.Mul(a[i], b[i])
		if e != api.OK {
			return true
		}
		if sum, e = ratio.Add(sum, product); e != api.OK {
			return true
		}
	}
	_, e := ratio.Sub(sum, less)
	return e != api.OK
}

// Long numbers are ErrLarge only if the sums of the definitions are, and otherwise judged rightly.
func TestLongProofs(t *testing.T) {
	r := rand.New(rand.NewSource(3))
	number := func() api.Rat {
		if r.Intn(4) == 0 {
			return []api.Rat{"0", "1", "-1"}[r.Intn(3)]
		}
		part := func() *big.Int {
			n := 1 + r.Intn([]int{5, 100, 180, 520}[r.Intn(4)])
			return new(big.Int).Add(new(big.Int).Rand(r, new(big.Int).Exp(big.NewInt(10), big.NewInt(int64(n)), nil)), big.NewInt(1))
		}
		v := new(big.Rat).SetFrac(part(), []*big.Int{big.NewInt(1), part()}[r.Intn(2)])
		if r.Intn(2) == 0 {
			v.Neg(v)
		}
		return text(v)
	}
	judged, long := 0, 0
	expect := func(what string, e api.Errno, holds, excused bool) {
		t.Helper()
		switch {
		case e == api.ErrLarge && excused:
			long++
		case e != verdict(holds):
			t.Errorf("%s: %d instead of %t (too long: %t)", what, e, holds, excused)
		default:
			judged++
		}
	}
	for range 1500 {
		n, m := 1+r.Intn(3), 1+r.Intn(3)
		l := random(r, n, m, number)
		point, weights, goal := list(n, number), list(m, number), list(n, number)
		if r.Intn(2) == 0 {
			for i, w := range weights {
				weights[i] = text(new(big.Rat).Abs(value(w)))
			}
		}
		points, rows := false, tooLong(mosts(l), weights, "0")
		for _, b := range l {
			points = points || tooLong(b.Row, point, b.Most)
		}
		for j := range n {
			rows = rows || tooLong(column(l, j), weights, "0")
		}
		expect("Verify", program.Verify(n, l, point), keeps(l, point), points)
		expect("Refute", program.Refute(n, l, weights), contradict(n, l, weights), rows)
		x := program.Optimum{Goal: goal, Value: number(), Point: point, Weights: weights}
		expect("VerifyMost", program.VerifyMost(n, l, x), prove(l, x), points || rows || tooLong(goal, point, "0"))
	}
	if judged < 1000 || long < 50 {
		t.Errorf("%d are judged, %d too long", judged, long)
	}
}

// With 0 a number of any length may stand, and a sum may be as long as numbers may be.
func TestLongestProofs(t *testing.T) {
	most := digits("9", 1024)
	l := []api.Bound{bound(most, most, "0"), bound("1/"+most, "0", "1/"+most)}
	for _, x := range []struct {
		point []api.Rat
		e     api.Errno
	}{{[]api.Rat{"1", "1"}, api.OK}, {[]api.Rat{"1", "-1"}, api.OK}, {[]api.Rat{"0", "0"}, api.OK}, {[]api.Rat{"1", "0"}, api.OK}, {[]api.Rat{"-1", "2"}, api.ErrLarge}, {[]api.Rat{most, "0"}, api.ErrLarge}} {
		e := program.Verify(2, l, x.point)
		if e != x.e && !(x.e == api.ErrLarge && e == verdict(keeps(l, x.point))) {
			t.Errorf("Verify of %.9s: %d instead of %d", x.point, e, x.e)
		}
	}
	opposites := []api.Bound{bound("-"+most, most), bound("0", "-"+most)}
	if e := program.Refute(1, opposites, []api.Rat{"1", "1"}); e != api.OK {
		t.Errorf("Refute of long numbers: %d", e)
	}
}
