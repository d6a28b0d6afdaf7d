package convolve_test

import (
	"fmt"
	"math/big"
	"math/rand"
	"reflect"
	"slices"
	"testing"

	"metrolab/api"
	"metrolab/convolve"
	"metrolab/dist"
)

// some returns a distribution with at most so many elements, whose weights have at most so many digits, and whose values are at most step apart.
func some(random *rand.Rand, most, digits, step int) []api.Weighted {
	value := random.Intn(40) - 20
	var l []api.Weighted
	for range 1 + random.Intn(most) {
		one, end := big.NewInt(1), new(big.Int).Exp(big.NewInt(10), big.NewInt(int64(1+random.Intn(digits))), nil)
		weight := new(big.Int).Rand(random, end.Sub(end, one))
		l = append(l, api.Weighted{Value: value, Weight: api.Int(weight.Add(weight, one).String())})
		value += 1 + random.Intn(step)
	}
	return l
}

// stack returns some distributions with their signs.
func stack(random *rand.Rand, n, most, digits, step int) ([][]api.Weighted, []int) {
	var l [][]api.Weighted
	var signs []int
	for range 1 + random.Intn(n) {
		l = append(l, some(random, most, digits, step))
		signs = append(signs, 1-2*random.Intn(2))
	}
	return l, signs
}

func number(a api.Int) *big.Int {
	n, ok := new(big.Int).SetString(string(a), 10)
	if !ok {
		panic("no number: " + a)
	}
	return n
}

func rational(a api.Rat) *big.Rat {
	v, ok := new(big.Rat).SetString(string(a))
	if !ok {
		panic("no number: " + a)
	}
	return v
}

func text(v *big.Rat) api.Rat { return api.Rat(v.RatString()) }

// choices calls a function with all choices of a stack, in lexicographic order, with their values and weights.
func choices(l [][]api.Weighted, signs []int, see func(choice []int, value int, weight *big.Int)) {
	choice := make([]int, len(l))
	var choose func(i, value int, weight *big.Int)
	choose = func(i, value int, weight *big.Int) {
		if i == len(l) {
			see(choice, value, weight)
			return
		}
		for _, x := range l[i] {
			choice[i] = x.Value
			choose(i+1, value+signs[i]*x.Value, new(big.Int).Mul(weight, number(x.Weight)))
		}
	}
	choose(0, 0, big.NewInt(1))
}

// weights is a distribution by values.
type weights map[int]*big.Int

func (w weights) add(value int, weight *big.Int) {
	if w[value] == nil {
		w[value] = new(big.Int)
	}
	w[value].Add(w[value], weight)
}

// of computes the distribution of a stack.
func of(l [][]api.Weighted, signs []int) weights {
	all := weights{0: big.NewInt(1)}
	for i, d := range l {
		next := weights{}
		for value, weight := range all {
			for _, x := range d {
				next.add(value+signs[i]*x.Value, new(big.Int).Mul(weight, number(x.Weight)))
			}
		}
		all = next
	}
	return all
}

func (w weights) list() []api.Weighted {
	var l []api.Weighted
	for value, weight := range w {
		l = append(l, api.Weighted{Value: value, Weight: api.Int(weight.String())})
	}
	slices.SortFunc(l, func(a, b api.Weighted) int { return a.Value - b.Value })
	return l
}

// mean returns the mean of what a function gives for the values.
func (w weights) mean(of func(value int) *big.Rat) *big.Rat {
	sum, total := new(big.Rat), new(big.Rat)
	for value, weight := range w {
		v := new(big.Rat).SetInt(weight)
		total.Add(total, v)
		sum.Add(sum, v.Mul(v, of(value)))
	}
	return sum.Quo(sum, total)
}

func (w weights) between(x api.Limits) *big.Rat {
	return w.mean(func(value int) *big.Rat {
		if value < x.Low || value > x.High {
			return new(big.Rat)
		}
		return big.NewRat(1, 1)
	})
}

// moments returns the mean and the variance.
func (w weights) moments() (*big.Rat, *big.Rat) {
	mean := w.mean(func(value int) *big.Rat { return big.NewRat(int64(value), 1) })
	return mean, w.mean(func(value int) *big.Rat {
		d := new(big.Rat).Sub(big.NewRat(int64(value), 1), mean)
		return d.Mul(d, d)
	})
}

// shortest looks through all limits from a value to a value.
func (w weights) shortest(p *big.Rat) api.Limits {
	l := w.list()
	best := limits(l[0].Value, l[len(l)-1].Value)
	for i := len(l) - 1; i >= 0; i-- {
		for j := i; j < len(l); j++ {
			x := limits(l[i].Value, l[j].Value)
			if x.High-x.Low <= best.High-best.Low && w.between(x).Cmp(p) >= 0 {
				best = x
			}
		}
	}
	return best
}

// P27.1 and P27.2: small stacks of which all choices are looked through.
func TestAll(t *testing.T) {
	random := rand.New(rand.NewSource(1))
	for range 400 {
		l, signs := stack(random, 5, 4, 3, 4)
		what := fmt.Sprint(signs, l)
		all, first := weights{}, map[int][]int{}
		choices(l, signs, func(choice []int, value int, weight *big.Int) {
			all.add(value, weight)
			if first[value] == nil {
				first[value] = slices.Clone(choice)
			}
		})
		d, e := convolve.Stack(l, signs)
		expect(t, "Stack "+what, results(d, e), results(all.list(), api.OK))
		worst, e := convolve.Worst(l, signs)
		expect(t, "Worst "+what, results(worst, e), results(limits(d[0].Value, d[len(d)-1].Value), api.OK))
		for value := worst.Low - 1; value <= worst.High+1; value++ {
			want := api.OK
			if first[value] == nil {
				want = api.ErrNone
			}
			parts, e := convolve.Parts(l, signs, value)
			expect(t, fmt.Sprint("Parts ", value, what), results(parts, e), results(first[value], want))
		}
		expectNumbers(t, random, l, signs, all)
		p := big.NewRat(random.Int63n(101), 100)
		x, e := convolve.Shortest(d, text(p))
		expect(t, fmt.Sprint("Shortest ", p, d), results(x, e), results(all.shortest(p), api.OK))
	}
}

// expectNumbers compares the yield and the moments of a stack with those of its distribution.
func expectNumbers(t *testing.T, random *rand.Rand, l [][]api.Weighted, signs []int, all weights) {
	t.Helper()
	what := fmt.Sprint(signs, l)
	low := random.Intn(60) - 30
	x := limits(low, low+random.Intn(60))
	p, e := convolve.Yield(l, signs, x)
	expect(t, fmt.Sprint("Yield ", x, what), results(p, e), results(text(all.between(x)), api.OK))
	mean, variance, e := convolve.Moments(l, signs)
	m, v := all.moments()
	expect(t, "Moments "+what, results(mean, variance, e), results(text(m), text(v), api.OK))
}

// P27.1 and P27.2: 8 distributions of 40 elements with weights of 20 digits have results that are never too long, not even for the longest probabilities.
func TestLong(t *testing.T) {
	random := rand.New(rand.NewSource(2))
	for i := range 6 {
		n := []int{8, 3}[i%2]
		l, signs := make([][]api.Weighted, n), make([]int, n)
		for j := range l {
			for len(l[j]) < 30 {
				l[j] = some(random, 40, 20, 2)
			}
			signs[j] = 1 - 2*random.Intn(2)
		}
		what := fmt.Sprint(signs, l)
		all := of(l, signs)
		d, e := convolve.Stack(l, signs)
		expect(t, "Stack "+what, results(d, e), results(all.list(), api.OK))
		expectNumbers(t, random, l, signs, all)
		for _, value := range []int{d[0].Value, d[len(d)/2].Value, d[len(d)-1].Value} {
			parts, e := convolve.Parts(l, signs, value)
			expect(t, fmt.Sprint("Parts ", value, what), results(valueOf(parts, signs), e), results(value, api.OK))
		}
		expectLong(t, l[0])
	}
}

func valueOf(parts, signs []int) int {
	value := 0
	for i, x := range parts {
		value += signs[i] * x
	}
	return value
}

// expectLong asks for the shortest limits for probabilities that some limits have exactly, and for those that are as little beside them as possible.
func expectLong(t *testing.T, l []api.Weighted) {
	t.Helper()
	all := of([][]api.Weighted{l}, []int{1})
	near := new(big.Rat).SetFrac(big.NewInt(1), new(big.Int).Exp(big.NewInt(10), big.NewInt(1000), nil))
	for i := 0; i+10 < len(l); i += 7 {
		p := all.between(limits(l[i].Value, l[i+10].Value))
		for _, p := range []*big.Rat{new(big.Rat).Sub(p, near), p, new(big.Rat).Add(p, near)} {
			x, e := convolve.Shortest(l, text(p))
			expect(t, fmt.Sprint("Shortest ", l, text(p)), results(x, e), results(all.shortest(p), api.OK))
		}
	}
}

// P27.3: the order of the distributions does not matter, and signs turn the distribution round.
func TestOrder(t *testing.T) {
	random := rand.New(rand.NewSource(3))
	for range 200 {
		l, signs := stack(random, 6, 5, 4, 3)
		what := fmt.Sprint(signs, l)
		d, e := convolve.Stack(l, signs)
		mean, variance, _ := convolve.Moments(l, signs)
		other, turned, opposite := slices.Clone(l), slices.Clone(signs), slices.Clone(signs)
		random.Shuffle(len(l), func(i, j int) {
			other[i], other[j] = other[j], other[i]
			turned[i], turned[j] = turned[j], turned[i]
		})
		same, f := convolve.Stack(other, turned)
		sameMean, sameVariance, _ := convolve.Moments(other, turned)
		expect(t, "in another order "+what, results(same, f, sameMean, sameVariance), results(d, e, mean, variance))
		for i := range opposite {
			opposite[i] = -opposite[i]
		}
		back, e := convolve.Stack(l, opposite)
		want, f := dist.Scale(d, -1, 0)
		expect(t, "turned "+what, results(back, e), results(want, f))
		first, e := convolve.Pair(l[0], d)
		second, f := convolve.Pair(d, l[0])
		expect(t, "Pair "+what, results(first, e), results(second, f))
	}
}

// P27.3: totals, moments, yields, ends and parts.
func TestLaws(t *testing.T) {
	random := rand.New(rand.NewSource(4))
	for range 200 {
		l, signs := stack(random, 6, 5, 9, 3)
		what := fmt.Sprint(signs, l)
		d, e := convolve.Stack(l, signs)
		expect(t, what, results(e, dist.Check(d)), results(api.OK, api.OK))
		product := big.NewInt(1)
		for _, x := range l {
			total, _ := dist.Total(x)
			product.Mul(product, number(total))
		}
		total, _ := dist.Total(d)
		mean, _ := dist.Mean(d)
		variance, _ := dist.Variance(d)
		sumOfMeans, sumOfVariances, e := convolve.Moments(l, signs)
		expect(t, what, results(total, mean, variance, e), results(product.String(), sumOfMeans, sumOfVariances, api.OK))
		worst, _ := convolve.Worst(l, signs)
		all, e := convolve.Yield(l, signs, worst)
		expect(t, what, results(worst, all, e), results(limits(d[0].Value, d[len(d)-1].Value), "1", api.OK))
		low := worst.Low + random.Intn(5) - 2
		x := limits(low, max(low, worst.High-random.Intn(5)))
		wider := limits(x.Low-random.Intn(3), x.High+random.Intn(3))
		p, _ := convolve.Yield(l, signs, x)
		q, _ := convolve.Yield(l, signs, wider)
		expect(t, fmt.Sprint(what, x, wider), results(rational(p).Cmp(rational(q)) <= 0), results(true))
		for _, x := range d {
			parts, e := convolve.Parts(l, signs, x.Value)
			expect(t, fmt.Sprint(what, x), results(valueOf(parts, signs), e), results(x.Value, api.OK))
			for i, part := range parts {
				expect(t, fmt.Sprint(what, parts, i), results(slices.ContainsFunc(l[i], func(x api.Weighted) bool { return x.Value == part })), results(true))
			}
		}
	}
}

// P27.1 and P27.2: no argument is changed, and no result shares memory with one.
func TestMemory(t *testing.T) {
	l, same := lists(a+";"+b), lists(a+";"+b)
	spare := append(make([]api.Weighted, 0, 9), l[0]...)
	signs := []int{1, -1}
	one := [][]api.Weighted{spare}
	for i, call := range []func() []api.Weighted{
		func() []api.Weighted { d, _ := convolve.Pair(spare, list("0:1")); return d },
		func() []api.Weighted { d, _ := convolve.Pair(l[0], l[1]); return d },
		func() []api.Weighted { d, _ := convolve.Stack(one, []int{1}); return d },
		func() []api.Weighted { d, _ := convolve.Stack(one, []int{-1}); return d },
		func() []api.Weighted { d, _ := convolve.Stack(l, signs); return d },
	} {
		got := call()
		want := slices.Clone(got)
		clear(got)
		expect(t, fmt.Sprint("call ", i), results(call()), results(want))
	}
	parts, _ := convolve.Parts(l, signs, 1)
	clear(parts)
	parts, _ = convolve.Parts(l, signs, 1)
	convolve.Yield(l, signs, limits(0, 1))
	convolve.Worst(l, signs)
	convolve.Moments(l, signs)
	convolve.Shortest(spare, "1/2")
	expect(t, "arguments", results(parts, reflect.DeepEqual(l, same), signs, spare[:9][3]), results([]int{1, 0}, true, []int{1, -1}, api.Weighted{}))
}
