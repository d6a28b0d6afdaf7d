package program_test

import (
	"math/big"
	"math/rand"
	"slices"
	"testing"

	"metrolab/api"
	"metrolab/program"
)

// eliminate takes an unknown out of inequalities, whose numbers are followed by what they add up to at most (Fourier and Motzkin).
func eliminate(l [][]*big.Rat, at int) [][]*big.Rat {
	var up, down, rest [][]*big.Rat
	for _, row := range l {
		switch sign := row[at].Sign(); {
		case sign == 0:
			rest = append(rest, row)
		case sign > 0:
			up = append(up, divided(row, row[at]))
		default:
			down = append(down, divided(row, new(big.Rat).Neg(row[at])))
		}
	}
	for _, x := range up {
		for _, y := range down {
			var sum []*big.Rat
			for j := range x {
				sum = append(sum, new(big.Rat).Add(x[j], y[j]))
			}
			rest = append(rest, sum)
		}
	}
	return tightest(rest)
}

func divided(row []*big.Rat, by *big.Rat) []*big.Rat {
	var l []*big.Rat
	for _, a := range row {
		l = append(l, new(big.Rat).Quo(a, by))
	}
	return l
}

// tightest leaves out inequalities that say less than another one with the same numbers.
func tightest(l [][]*big.Rat) [][]*big.Rat {
	places := map[string]int{}
	var kept [][]*big.Rat
	for _, row := range l {
		key, last := "", len(row)-1
		for _, a := range row[:last] {
			if key == "" && a.Sign() != 0 {
				row = divided(row, new(big.Rat).Abs(a))
				break
			}
		}
		for _, a := range row[:last] {
			key += a.RatString() + " "
		}
		place, ok := places[key]
		switch {
		case !ok:
			places[key] = len(kept)
			kept = append(kept, row)
		case row[last].Cmp(kept[place][last]) < 0:
			kept[place] = row
		}
	}
	return kept
}

// greatest returns the greatest value of a goal as text and OK, or the error that Most must return.
func greatest(n int, l []api.Bound, goal []api.Rat) (api.Rat, api.Errno) {
	var rows [][]*big.Rat
	for _, b := range l {
		var row []*big.Rat
		for _, a := range b.Row {
			row = append(row, value(a))
		}
		rows = append(rows, append(row, new(big.Rat), value(b.Most)))
	}
	var row []*big.Rat // the value of the goal, which is one more unknown, is not greater than the sum
	for _, a := range goal {
		row = append(row, new(big.Rat).Neg(value(a)))
	}
	rows = append(rows, append(row, big.NewRat(1, 1), new(big.Rat)))
	for at := range n {
		rows = eliminate(rows, at)
	}
	var best *big.Rat
	for _, row := range rows {
		switch {
		case row[n].Sign() == 0 && row[n+1].Sign() < 0:
			return "", api.ErrNone
		case row[n].Sign() > 0:
			if most := new(big.Rat).Quo(row[n+1], row[n]); best == nil || most.Cmp(best) < 0 {
				best = most
			}
		}
	}
	if best == nil {
		return "", api.ErrState
	}
	return text(best), api.OK
}

// expectMost compares with an expected value or error, and checks what proves it.
func expectMost(t *testing.T, n int, l []api.Bound, goal []api.Rat, wanted api.Rat, error api.Errno) {
	t.Helper()
	v, point, weights, e := program.Most(n, l, goal)
	if v != wanted || e != error {
		t.Fatalf("Most(%d, %s, %s): %s, error %d instead of %s, error %d", n, l, goal, v, e, wanted, error)
	}
	if e != api.OK {
		expectNone(t, "Most", e, error, v, point, weights)
		return
	}
	x := program.Optimum{Goal: goal, Value: v, Point: point, Weights: weights}
	if len(point) != n || len(weights) != len(l) || !prove(l, x) {
		t.Errorf("Most(%d, %s, %s): %s at %s with %s", n, l, goal, v, point, weights)
	}
	if e := program.VerifyMost(n, l, x); e != api.OK {
		t.Errorf("VerifyMost(%d, %s, %s): %d", n, l, goal, e)
	}
}

// expectFeasible checks the point or the weights, and returns whether there is a point.
func expectFeasible(t *testing.T, n int, l []api.Bound) bool {
	t.Helper()
	point, weights, ok, e := program.Feasible(n, l)
	switch {
	case e != api.OK:
		t.Fatalf("Feasible(%d, %s): error %d", n, l, e)
	case ok && (len(weights) > 0 || len(point) != n || !keeps(l, point) || program.Verify(n, l, point) != api.OK):
		t.Errorf("Feasible(%d, %s): point %s, weights %s", n, l, point, weights)
	case !ok && (len(point) > 0 || len(weights) != len(l) || !contradict(n, l, weights) || program.Refute(n, l, weights) != api.OK):
		t.Errorf("Feasible(%d, %s): weights %s, point %s", n, l, weights, point)
	}
	return ok
}

// P5.2

func TestSolve(t *testing.T) {
	r := rand.New(rand.NewSource(4))
	counts := map[api.Errno]int{}
	implied := 0
	for i := range 5000 {
		number := numbers(r)[i%5]
		n, m := 1+r.Intn(4), r.Intn(8)
		if n > 2 {
			m = r.Intn(7)
		}
		l := random(r, n, m, number)
		goal := list(n, number)
		wanted, error := greatest(n, l, goal)
		counts[error]++
		if ok := expectFeasible(t, n, l); ok != (error != api.ErrNone) {
			t.Fatalf("Feasible(%d, %s): %t", n, l, ok)
		}
		expectMost(t, n, l, goal, wanted, error)
		most := number()
		if error == api.OK && r.Intn(3) == 0 {
			most = wanted
		}
		is, e := program.Implied(n, l, bound(most, goal...))
		if should := error == api.ErrNone || error == api.OK && value(wanted).Cmp(value(most)) <= 0; is != should || e != api.OK {
			t.Errorf("Implied(%d, %s, %s, %s): %t, error %d instead of %t", n, l, goal, most, is, e, should)
		}
		if is {
			implied++
		}
	}
	if counts[api.OK] < 500 || counts[api.ErrNone] < 500 || counts[api.ErrState] < 500 || implied < 500 {
		t.Errorf("%v, %d implied", counts, implied)
	}
}

func TestExamples(t *testing.T) {
	l := []api.Bound{bound("4", "1", "1"), bound("0", "-1", "0"), bound("0", "0", "-1")}
	expectMost(t, 2, l, []api.Rat{"2", "3"}, "12", api.OK)
	if e := program.Verify(2, l, []api.Rat{"0", "0"}); e != api.OK {
		t.Errorf("Verify: %d", e)
	}
	x := program.Optimum{Goal: []api.Rat{"2", "3"}, Value: "12", Point: []api.Rat{"0", "4"}, Weights: []api.Rat{"3", "1", "0"}}
	if e := program.VerifyMost(2, l, x); e != api.OK {
		t.Errorf("VerifyMost: %d", e)
	}
	apart := []api.Bound{bound("1", "1"), bound("-2", "-1")}
	if e := program.Refute(1, apart, []api.Rat{"1", "1"}); expectFeasible(t, 1, apart) || e != api.OK {
		t.Errorf("Refute: %d", e)
	}
	expectMost(t, 1, []api.Bound{bound("0", "-1")}, []api.Rat{"1"}, "", api.ErrState)
}

// Without bounds, with bounds that do not mention unknowns, and with unknowns that only occur together.
func TestFewBounds(t *testing.T) {
	for _, x := range []struct {
		n     int
		l     []api.Bound
		goal  []api.Rat
		value api.Rat
		e     api.Errno
	}{
		{3, nil, []api.Rat{"0", "0", "0"}, "0", api.OK}, {3, nil, []api.Rat{"0", "1/9", "0"}, "", api.ErrState},
		{1, []api.Bound{bound("0", "0")}, []api.Rat{"0"}, "0", api.OK}, {1, []api.Bound{bound("-1/3", "0")}, []api.Rat{"0"}, "", api.ErrNone}, {1, []api.Bound{bound("-1/3", "0")}, []api.Rat{"1"}, "", api.ErrNone}, {1, []api.Bound{bound("1/3", "0")}, []api.Rat{"1"}, "", api.ErrState},
		{2, []api.Bound{bound("7", "1", "-1")}, []api.Rat{"2", "-2"}, "14", api.OK}, {2, []api.Bound{bound("7", "1", "-1")}, []api.Rat{"2", "-1"}, "", api.ErrState}, {2, []api.Bound{bound("7", "1", "-1")}, []api.Rat{"-1", "1"}, "", api.ErrState},
		{3, []api.Bound{bound("7", "1", "-1", "0"), bound("-7", "-1", "1", "0")}, []api.Rat{"1/2", "-1/2", "0"}, "7/2", api.OK}, {3, []api.Bound{bound("7", "1", "-1", "0"), bound("-7", "-1", "1", "0")}, []api.Rat{"1/2", "-1/2", "-1"}, "", api.ErrState}, {3, []api.Bound{bound("7", "1", "-1", "0"), bound("-8", "-1", "1", "0")}, []api.Rat{"0", "0", "1"}, "", api.ErrNone},
		{8, []api.Bound{bound("999999999999/17", "0", "0", "1/999999999989", "-999999999999/999999999989", "0", "0", "0", "5")}, []api.Rat{"0", "0", "-1/999999999989", "999999999999/999999999989", "0", "0", "0", "-5"}, "", api.ErrState},
		{8, []api.Bound{bound("999999999999/17", "0", "0", "1/999999999989", "-999999999999/999999999989", "0", "0", "0", "5")}, []api.Rat{"0", "0", "1/999999999989", "-999999999999/999999999989", "0", "0", "0", "5"}, "999999999999/17", api.OK},
	} {
		expectMost(t, x.n, x.l, x.goal, x.value, x.e)
		expectFeasible(t, x.n, x.l)
	}
	// A bound without unknowns follows from others, or does not, by its number alone.
	for most, wanted := range map[api.Rat]bool{"0": true, "1/2": true, "-1/2": false} {
		is, e := program.Implied(2, []api.Bound{bound("1", "1", "1")}, bound(most, "0", "0"))
		if is != wanted || e != api.OK {
			t.Errorf("Implied of %s: %t, error %d", most, is, e)
		}
		is, e = program.Implied(2, []api.Bound{bound("-1", "0", "0")}, bound(most, "5", "7"))
		if !is || e != api.OK {
			t.Errorf("Implied by none: %t, error %d", is, e)
		}
	}
}

// Many unknowns and bounds may be ErrLarge or ErrLimit, but what is returned is proved.
func TestMany(t *testing.T) {
	r := rand.New(rand.NewSource(5))
	for i := range 60 {
		n, m := 1+r.Intn(8), r.Intn(65)
		if i%10 == 0 {
			n, m = 8, 64
		}
		number := numbers(r)[1+i%4]
		l := random(r, n, m, number)
		if r.Intn(2) == 0 { // a point keeps them
			for j := range l {
				l[j].Most = text(new(big.Rat).Add(dot(l[j].Row, slices.Repeat([]api.Rat{"2/3"}, n)), big.NewRat(int64(j%3), 2)))
			}
		}
		goal := list(n, number)
		ok := expectFeasible(t, n, l)
		v, _, _, e := program.Most(n, l, goal)
		if ok == (e == api.ErrNone) {
			t.Fatalf("Feasible(%d, %s) is %t, Most has the error %d", n, l, ok, e)
		}
		expectMost(t, n, l, goal, v, e)
		if e == api.ErrState {
			var far api.Bound
			for _, a := range goal {
				far.Row = append(far.Row, opposite(a))
			}
			far.Most = "-1000000007/3"
			if !expectFeasible(t, n, append(l[:min(m, 63):min(m, 63)], far)) {
				t.Errorf("Most(%d, %s, %s) has an end", n, l, goal)
			}
		}
	}
}

// Tables in which the best place to pivot is not a good one come to an end.
func TestCycles(t *testing.T) {
	// Beale's and Kuhn's examples, which cycle if the largest number is chosen.
	beale := []api.Bound{bound("0", "1/4", "-60", "-1/25", "9"), bound("0", "1/2", "-90", "-1/50", "3"), bound("1", "0", "0", "1", "0")}
	kuhn := []api.Bound{bound("0", "-2", "-9", "1", "9"), bound("0", "1/3", "1", "-1/3", "-2"), bound("2", "2", "3", "-1", "-12")}
	for i, sign := range []api.Rat{"-1", "-1", "-1", "-1"} {
		b := bound("0", zeros(4)...)
		b.Row[i] = sign
		beale, kuhn = append(beale, b), append(kuhn, b)
	}
	expectMost(t, 4, beale, []api.Rat{"3/4", "-150", "1/50", "-6"}, "1/20", api.OK)
	expectMost(t, 4, kuhn, []api.Rat{"2", "3", "-1", "-12"}, "2", api.OK)
	// Klee's and Minty's cubes.
	for n := 1; n <= 8; n++ {
		var l []api.Bound
		for i := range n {
			b, low := bound(text(new(big.Rat).SetInt64(pow(5, i+1))), zeros(n)...), bound("0", zeros(n)...)
			for j := range i {
				b.Row[j] = text(new(big.Rat).SetInt64(pow(2, i-j+1)))
			}
			b.Row[i], low.Row[i] = "1", "-1"
			l = append(l, b, low)
		}
		var goal []api.Rat
		for i := range n {
			goal = append(goal, text(new(big.Rat).SetInt64(pow(2, n-1-i))))
		}
		expectMost(t, n, l, goal, text(new(big.Rat).SetInt64(pow(5, n))), api.OK)
	}
}

func pow(a, n int) int64 {
	v := int64(1)
	for range n {
		v *= int64(a)
	}
	return v
}

// longest returns a number with 12 digits in its numerator or its denominator, or both.
func longest(r *rand.Rand, kind int) api.Rat {
	for {
		a, b := 1e11+r.Int63n(9e11), 1e11+r.Int63n(9e11)
		switch kind {
		case 0:
			b = 1
		case 1:
			a = 1 + r.Int63n(9)
		}
		v := big.NewRat(a, b)
		if v.Num().Int64() != a || v.Denom().Int64() != b {
			continue
		}
		if r.Intn(2) == 0 {
			v.Neg(v)
		}
		return text(v)
	}
}

// No number is too long if those of the bounds have at most 12 digits, and there are at most 4 unknowns and 24 bounds, or one bound.
func TestLongest(t *testing.T) {
	r := rand.New(rand.NewSource(6))
	counts := map[api.Errno]int{}
	for i := range 96 {
		n, m := 4, 24
		switch i % 8 {
		case 0:
			n, m = 8, 1
		case 1:
			n, m = 1+r.Intn(4), r.Intn(25)
		}
		number := func() api.Rat { return longest(r, min(i/8%4, r.Intn(3))) }
		if i/8%4 == 3 {
			number = func() api.Rat { return longest(r, 2) }
		}
		var l []api.Bound
		for j := range m {
			b := bound(number(), list(n, number)...)
			if most := value(b.Most); most.Sign() < 0 && (i%3 != 0 || j%6 != 0) { // otherwise 0 keeps it
				b.Most = opposite(b.Most)
			}
			l = append(l, b)
		}
		goal := list(n, number)
		if m == 1 && i%16 == 0 {
			goal = l[0].Row
		}
		ok := expectFeasible(t, n, l)
		v, _, _, e := program.Most(n, l, goal)
		if ok == (e == api.ErrNone) || e == api.ErrLarge || e == api.ErrLimit {
			t.Fatalf("Most(%d, %s, %s): error %d", n, l, goal, e)
		}
		counts[e]++
		expectMost(t, n, l, goal, v, e)
		b := bound(number(), goal...)
		is, f := program.Implied(n, l, b)
		if wanted := e == api.ErrNone || e == api.OK && value(v).Cmp(value(b.Most)) <= 0; is != wanted || f != api.OK {
			t.Errorf("Implied(%d, %s, %s): %t, error %d", n, l, b, is, f)
		}
	}
	if counts[api.OK] < 20 || counts[api.ErrNone] < 5 || counts[api.ErrState] < 5 {
		t.Errorf("%v", counts)
	}
}

// The numbers of points and weights have at most 300 characters if those of the bounds and the goal have at most 8, and there are at most 3 unknowns or one bound.
func TestShort(t *testing.T) {
	r := rand.New(rand.NewSource(7))
	pools := [][]api.Rat{{"1/999983", "-1/99991", "7/999979", "-3/99989", "5/999961", "99999989", "-9999991", "2/999959", "-2/99971"}, {"1/999983", "5/999979", "3/999961", "7/999959", "2/999953", "8/999931", "-1/99991", "-7/99989", "-2/99971", "-9/99961"}, {"977/9973", "-97/9967", "991/9949", "-89/9941", "99999989", "-9999991", "0"}}
	short := func(l []api.Rat) bool {
		return !slices.ContainsFunc(l, func(a api.Rat) bool { return len(a) > 300 })
	}
	longest := 0
	for i := range 300 {
		pool := pools[i%3]
		number := func() api.Rat { return pool[r.Intn(len(pool))] }
		n, m := 3, 1+r.Intn(64)
		if i%5 == 0 {
			n, m = 8, 1
		}
		l := random(r, n, m, number)
		if i%2 == 0 {
			for j, b := range l {
				l[j].Most = text(new(big.Rat).Abs(value(b.Most)))
			}
		}
		goal := list(n, number)
		if m == 1 {
			goal = l[0].Row
		}
		point, weights, _, e := program.Feasible(n, l)
		_, best, proof, f := program.Most(n, l, goal)
		if e != api.OK || f == api.ErrLarge || f == api.ErrLimit || !short(slices.Concat(point, weights, best, proof)) {
			t.Errorf("%d unknowns, %s, goal %s: %s %s error %d, %s %s error %d", n, l, goal, point, weights, e, best, proof, f)
		}
		for _, a := range slices.Concat(point, weights, best, proof) {
			longest = max(longest, len(a))
		}
		expectFeasible(t, n, l)
	}
	if longest < 100 {
		t.Errorf("the longest number has %d characters", longest)
	}
}

// Numbers that are too long for the table are an error without results.
func TestLarge(t *testing.T) {
	r := rand.New(rand.NewSource(8))
	long := func() api.Rat {
		return text(new(big.Rat).SetFrac(new(big.Int).Exp(big.NewInt(2+r.Int63n(7)), big.NewInt(900), nil), new(big.Int).Exp(big.NewInt(11+2*r.Int63n(5)), big.NewInt(700), nil)))
	}
	for range 20 {
		l := random(r, 3, 6, long)
		point, weights, ok, e := program.Feasible(3, l)
		if e == api.OK {
			expectFeasible(t, 3, l)
		} else {
			expectNone(t, "Feasible", e, api.ErrLarge, point, weights, ok)
		}
		v, point, weights, e := program.Most(3, l, list(3, long))
		expectNone(t, "Most", e, api.ErrLarge, v, point, weights)
		is, e := program.Implied(3, l, bound("1", list(3, long)...))
		expectNone(t, "Implied", e, api.ErrLarge, is)
	}
}

// P5.3

// Points and weights cannot both be there.
func TestEither(t *testing.T) {
	r := rand.New(rand.NewSource(9))
	for i := range 1500 {
		number := numbers(r)[i%5]
		n, m := 1+r.Intn(3), r.Intn(7)
		l := random(r, n, m, number)
		point, weights := list(n, number), list(m, number)
		if expectFeasible(t, n, l) {
			if e := program.Refute(n, l, weights); e != api.ErrProof {
				t.Errorf("Refute(%d, %s, %s): %d", n, l, weights, e)
			}
		} else if e := program.Verify(n, l, point); e != api.ErrProof {
			t.Errorf("Verify(%d, %s, %s): %d", n, l, point, e)
		}
	}
}

// The greatest value of a goal is the least sum of the numbers Most: the weights are the unknowns of another program.
func TestDuality(t *testing.T) {
	r := rand.New(rand.NewSource(10))
	proved := 0
	for i := range 1500 {
		number := numbers(r)[i%5]
		n, m := 1+r.Intn(3), 1+r.Intn(6)
		l := random(r, n, m, number)
		goal := list(n, number)
		var other []api.Bound
		var most []api.Rat
		for j, wanted := range goal {
			b := bound(wanted, column(l, j)...)
			less := bound(opposite(wanted))
			for _, a := range b.Row {
				less.Row = append(less.Row, opposite(a))
			}
			other = append(other, b, less)
		}
		for j, b := range l {
			sign := bound("0", zeros(m)...)
			sign.Row[j] = "-1"
			other = append(other, sign)
			most = append(most, opposite(b.Most))
		}
		v, _, _, e := program.Most(n, l, goal)
		w, _, _, f := program.Most(m, other, most)
		switch e {
		case api.OK:
			proved++
			if f != api.OK || v != opposite(w) {
				t.Errorf("%s, %s: %s and %s, error %d", l, goal, v, w, f)
			}
		case api.ErrNone: // there are no weights, or their sums have no end
			if f == api.OK {
				t.Errorf("%s, %s: no point, but %s", l, goal, w)
			}
		default:
			if f != api.ErrNone {
				t.Errorf("%s, %s: no end, but error %d", l, goal, f)
			}
		}
	}
	if proved < 200 {
		t.Errorf("only %d are proved", proved)
	}
}

// Further bounds make the greatest value no greater, and those that follow do not change it.
func TestFurtherBounds(t *testing.T) {
	r := rand.New(rand.NewSource(11))
	for i := range 1500 {
		number := numbers(r)[i%5]
		n, m := 1+r.Intn(3), r.Intn(7)
		l := random(r, n, m, number)
		goal := list(n, number)
		b := bound(number(), list(n, number)...)
		before, _, _, e := program.Most(n, l, goal)
		after, _, _, f := program.Most(n, append(l[:m:m], b), goal)
		implied, g := program.Implied(n, l, b)
		switch {
		case g != api.OK, e == api.ErrNone && f != api.ErrNone, e == api.OK && f == api.ErrState:
			t.Errorf("%s, then %s: errors %d, %d, %d", l, b, e, f, g)
		case implied && (before != after || e != f):
			t.Errorf("%s, then %s: %s and %s", l, b, before, after)
		case e == api.OK && f == api.OK && value(before).Cmp(value(after)) < 0:
			t.Errorf("%s, then %s: %s, but then %s", l, b, before, after)
		}
	}
}
