package program_test

import (
	"math"
	"math/big"
	"math/rand"
	"reflect"
	"slices"
	"strings"
	"testing"

	"metrolab/api"
	"metrolab/program"
)

func bound(most api.Rat, row ...api.Rat) api.Bound { return api.Bound{Row: row, Most: most} }

func digits(s string, n int) api.Rat { return api.Rat(strings.Repeat(s, n)) }

func value(a api.Rat) *big.Rat {
	v, ok := new(big.Rat).SetString(string(a))
	if !ok {
		panic("no number: " + a)
	}
	return v
}

func text(v *big.Rat) api.Rat { return api.Rat(v.RatString()) }

func opposite(a api.Rat) api.Rat { return text(new(big.Rat).Neg(value(a))) }

// dot adds products by the definition.
func dot(a, b []api.Rat) *big.Rat {
	sum := new(big.Rat)
	for i, x := range a {
		sum.Add(sum, new(big.Rat).Mul(value(x), value(b[i])))
	}
	return sum
}

func column(l []api.Bound, j int) []api.Rat {
	var found []api.Rat
	for _, b := range l {
		found = append(found, b.Row[j])
	}
	return found
}

func mosts(l []api.Bound) []api.Rat {
	var found []api.Rat
	for _, b := range l {
		found = append(found, b.Most)
	}
	return found
}

// keeps, contradict and prove are the definitions.
func keeps(l []api.Bound, point []api.Rat) bool {
	return !slices.ContainsFunc(l, func(b api.Bound) bool { return dot(b.Row, point).Cmp(value(b.Most)) > 0 })
}

func addUp(l []api.Bound, weights, goal []api.Rat) bool {
	if slices.ContainsFunc(weights, func(w api.Rat) bool { return value(w).Sign() < 0 }) {
		return false
	}
	for j, wanted := range goal {
		if dot(column(l, j), weights).Cmp(value(wanted)) != 0 {
			return false
		}
	}
	return true
}

func contradict(n int, l []api.Bound, weights []api.Rat) bool {
	return addUp(l, weights, zeros(n)) && dot(mosts(l), weights).Sign() < 0
}

func prove(l []api.Bound, x program.Optimum) bool {
	v := value(x.Value)
	return keeps(l, x.Point) && dot(x.Goal, x.Point).Cmp(v) == 0 && addUp(l, x.Weights, x.Goal) && dot(mosts(l), x.Weights).Cmp(v) == 0
}

func zeros(n int) []api.Rat { return slices.Repeat([]api.Rat{"0"}, n) }

// random returns bounds whose numbers come from a pool; some of them are repeated, opposite or parallel to others.
func random(r *rand.Rand, n, m int, number func() api.Rat) []api.Bound {
	var l []api.Bound
	for len(l) < m {
		var b api.Bound
		for range n {
			b.Row = append(b.Row, number())
		}
		b.Most = number()
		if len(l) > 0 && r.Intn(4) == 0 {
			other := l[r.Intn(len(l))]
			b.Row = slices.Clone(other.Row)
			if r.Intn(2) == 0 {
				for j, a := range b.Row {
					b.Row[j] = opposite(a)
				}
				if r.Intn(2) == 0 {
					b.Most = opposite(other.Most)
				}
			}
		}
		l = append(l, b)
	}
	return l
}

// numbers returns functions that choose from a pool each.
func numbers(r *rand.Rand) []func() api.Rat {
	var l []func() api.Rat
	for _, pool := range [][]api.Rat{{"0", "1", "-1"}, {"0", "0", "1", "-1", "2"}, {"1", "-1", "2", "-3", "4", "-5", "0"}, {"1/2", "-2/3", "5/7", "-9", "11/4", "0", "-1/12", "3"}, {"1", "-1", "1/3", "-1/3", "2/3", "-2/3"}} {
		l = append(l, func() api.Rat { return pool[r.Intn(len(pool))] })
	}
	return l
}

func list(n int, number func() api.Rat) []api.Rat {
	var l []api.Rat
	for range n {
		l = append(l, number())
	}
	return l
}

// wrong are no bounds on so many unknowns, with the errors that Check must return.
var wrong = []struct {
	n int
	l []api.Bound
	e api.Errno
}{
	{0, nil, api.ErrRange}, {-1, nil, api.ErrRange}, {9, nil, api.ErrRange}, {math.MinInt64, nil, api.ErrRange}, {math.MaxInt64, nil, api.ErrRange}, {0, make([]api.Bound, 65), api.ErrRange}, {9, []api.Bound{bound("x", "1")}, api.ErrRange},
	{1, make([]api.Bound, 65), api.ErrMany}, {8, slices.Repeat([]api.Bound{bound("x", "1")}, 65), api.ErrMany}, {1, slices.Repeat([]api.Bound{bound("1", "1")}, 65), api.ErrMany},
	{1, []api.Bound{{}}, api.ErrShape}, {2, []api.Bound{bound("1", "1")}, api.ErrShape}, {1, []api.Bound{bound("1", "1", "1")}, api.ErrShape}, {2, []api.Bound{bound("x", "y")}, api.ErrShape}, {8, []api.Bound{bound("0", "0", "0", "0", "0", "0", "0", "0", "0", "0")}, api.ErrShape}, {1, []api.Bound{bound("1", "1"), bound("1")}, api.ErrShape},
	{1, []api.Bound{bound("1", "2/2")}, api.ErrForm}, {1, []api.Bound{bound("", "1")}, api.ErrForm}, {2, []api.Bound{bound(digits("7", 1025), "1", "x")}, api.ErrForm}, {1, []api.Bound{bound("1", "1"), bound("1", "+1"), bound("1")}, api.ErrForm}, {1, []api.Bound{bound("-0", "1"), bound("1", digits("7", 1025))}, api.ErrForm},
	{2, []api.Bound{bound("x", "1", digits("7", 1025))}, api.ErrLarge}, {2, []api.Bound{bound("1", digits("7", 1025), "")}, api.ErrLarge}, {1, []api.Bound{bound("1/"+digits("7", 1025), "1"), bound("", "1", "1")}, api.ErrLarge},
}

// P5.1

func TestCheck(t *testing.T) {
	for i, x := range wrong {
		if e := program.Check(x.n, x.l); e != x.e {
			t.Errorf("Check %d: %d instead of %d", i, e, x.e)
		}
	}
	r := rand.New(rand.NewSource(1))
	for n := 1; n <= api.MaxUnknowns; n++ {
		for _, m := range []int{0, 1, 5, api.MaxBounds} {
			if e := program.Check(n, random(r, n, m, numbers(r)[m%5])); e != api.OK {
				t.Errorf("Check of %d bounds on %d unknowns: %d", m, n, e)
			}
		}
	}
	if e := program.Check(1, []api.Bound{bound(digits("7", 1024), "-1/"+digits("7", 1024))}); e != api.OK {
		t.Errorf("Check of long numbers: %d", e)
	}
}

// expectNone checks that results beside an error are zero.
func expectNone(t *testing.T, what string, e, error api.Errno, results ...any) {
	t.Helper()
	for _, x := range results {
		if v := reflect.ValueOf(x); !v.IsZero() && (v.Kind() != reflect.Slice || v.Len() > 0) {
			t.Errorf("%s: %.200s beside the error %d", what, x, e)
		}
	}
	if e != error {
		t.Errorf("%s: error %d instead of %d", what, e, error)
	}
}

// All functions return the error of the bounds first.
func TestArguments(t *testing.T) {
	for _, x := range wrong {
		for _, l := range [][]api.Rat{nil, {"x"}, {"1", ""}} {
			expectNone(t, "Verify", program.Verify(x.n, x.l, l), x.e)
			expectNone(t, "Refute", program.Refute(x.n, x.l, l), x.e)
			expectNone(t, "VerifyMost", program.VerifyMost(x.n, x.l, program.Optimum{Goal: l, Point: l, Weights: l}), x.e)
			value, point, weights, e := program.Most(x.n, x.l, l)
			expectNone(t, "Most", e, x.e, value, point, weights)
			implied, e := program.Implied(x.n, x.l, bound("x", l...))
			expectNone(t, "Implied", e, x.e, implied)
		}
		point, weights, ok, e := program.Feasible(x.n, x.l)
		expectNone(t, "Feasible", e, x.e, point, weights, ok)
	}
}

// Goals and further bounds have their errors, whether points keep the bounds or not.
func TestGoals(t *testing.T) {
	long := digits("7", 1025)
	some := []api.Bound{bound("3", "1", "0"), bound("3", "0", "1")}
	none := []api.Bound{bound("-1", "0", "0")}
	for _, l := range [][]api.Bound{nil, some, none} {
		for _, x := range []struct {
			goal []api.Rat
			e    api.Errno
		}{{nil, api.ErrShape}, {[]api.Rat{"1"}, api.ErrShape}, {[]api.Rat{"x", "y", "z"}, api.ErrShape}, {[]api.Rat{"0", "x"}, api.ErrForm}, {[]api.Rat{"3/3", long}, api.ErrForm}, {[]api.Rat{long, "3/3"}, api.ErrLarge}} {
			value, point, weights, e := program.Most(2, l, x.goal)
			expectNone(t, "Most", e, x.e, value, point, weights)
			implied, e := program.Implied(2, l, bound("x", x.goal...))
			expectNone(t, "Implied", e, x.e, implied)
		}
		implied, e := program.Implied(2, l, bound("", "0", "0"))
		expectNone(t, "Implied", e, api.ErrForm, implied)
		implied, e = program.Implied(2, l, bound("1/"+long, "0", "0"))
		expectNone(t, "Implied", e, api.ErrLarge, implied)
	}
}

// Arguments are not changed, not even behind their ends, and results share no memory.
func TestMemory(t *testing.T) {
	cells := []api.Rat{"1", "0", "-1", "0", "0", "1", "0", "-1", "1", "1", "9", "9"}
	most := []api.Rat{"3", "0", "3", "0", "5"}
	goal := []api.Rat{"1/2", "1", "9"}
	weights := []api.Rat{"0", "0", "0", "0", "1", "9"}
	build := func() []api.Bound {
		l := make([]api.Bound, 6)
		for i, a := range most {
			l[i] = api.Bound{Row: cells[2*i : 2*i+2], Most: a}
		}
		l[5] = bound("-77", "1", "1")
		return l
	}
	all := build()
	kept := slices.Concat(cells, most, goal, weights)
	_, first, second, _ := program.Most(2, all[:5], goal[:2])
	third, _, _, _ := program.Feasible(2, all[:5])
	_, fourth, _, _ := program.Feasible(2, all)
	program.Implied(2, all[:5], all[5])
	program.Verify(2, all[:5], goal[:2])
	program.Refute(2, all[:5], weights[:5])
	program.VerifyMost(2, all[:5], program.Optimum{Goal: goal[:2], Value: "5", Point: goal[:2], Weights: weights[:5]})
	lists := [][]api.Rat{first, second, third, fourth}
	if len(first) != 2 || len(second) != 5 || len(third) != 2 || len(fourth) != 6 {
		t.Fatalf("%s", lists)
	}
	for i, l := range lists {
		var before [][]api.Rat
		for _, other := range lists {
			before = append(before, slices.Clone(other))
		}
		for j := range l[:cap(l)] {
			l[:cap(l)][j] = "x"
		}
		for j, other := range lists {
			if j != i && !slices.Equal(other, before[j]) {
				t.Errorf("results %d and %d share memory", i, j)
			}
		}
	}
	if !slices.Equal(kept, slices.Concat(cells, most, goal, weights)) || !reflect.DeepEqual(all, build()) {
		t.Error("arguments are changed")
	}
}
