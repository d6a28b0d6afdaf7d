package dist_test

import (
	"fmt"
	"math/big"
	"math/rand"
	"slices"
	"testing"

	"metrolab/api"
	"metrolab/dist"
)

// some returns a distribution with at most so many elements, whose weights have at most so many digits.
func some(random *rand.Rand, most, digits int) []api.Weighted {
	value := random.Intn(40) - 20
	var l []api.Weighted
	for range 1 + random.Intn(most) {
		one, end := big.NewInt(1), new(big.Int).Exp(big.NewInt(10), big.NewInt(int64(1+random.Intn(digits))), nil)
		weight := new(big.Int).Rand(random, end.Sub(end, one))
		l = append(l, api.Weighted{Value: value, Weight: api.Int(weight.Add(weight, one).String())})
		value += 1 + random.Intn(5)
	}
	return l
}

func value(s string) *big.Rat {
	v, ok := new(big.Rat).SetString(s)
	if !ok {
		panic("no number: " + s)
	}
	return v
}

func text(v *big.Rat) api.Rat { return api.Rat(v.RatString()) }

// mean returns the sum of the probabilities times what a function gives for the values.
func mean(l []api.Weighted, of func(v *big.Rat) *big.Rat) *big.Rat {
	sum, total := new(big.Rat), new(big.Rat)
	for _, x := range l {
		weight := value(string(x.Weight))
		total.Add(total, weight)
		sum.Add(sum, weight.Mul(weight, of(big.NewRat(int64(x.Value), 1))))
	}
	return sum.Quo(sum, total)
}

// upTo returns the probability of the values up to each of them.
func upTo(l []api.Weighted) []*big.Rat {
	var sums []*big.Rat
	for _, x := range l {
		sums = append(sums, mean(l, func(v *big.Rat) *big.Rat {
			if v.Cmp(big.NewRat(int64(x.Value), 1)) <= 0 {
				return big.NewRat(1, 1)
			}
			return new(big.Rat)
		}))
	}
	return sums
}

// binomial computes a binomial distribution trial by trial.
func binomial(n, num, den int) []api.Weighted {
	weights := []*big.Int{big.NewInt(1)}
	for range n {
		next := []*big.Int{new(big.Int)}
		for i, w := range weights {
			next[i].Add(next[i], new(big.Int).Mul(w, big.NewInt(int64(den-num))))
			next = append(next, new(big.Int).Mul(w, big.NewInt(int64(num))))
		}
		weights = next
	}
	var l []api.Weighted
	for i, w := range weights {
		if w.Sign() > 0 {
			l = append(l, api.Weighted{Value: i, Weight: api.Int(w.String())})
		}
	}
	return l
}

// P26.1: up to 40 elements with weights of up to 20 digits have results that are never too long.
func TestAny(t *testing.T) {
	random := rand.New(rand.NewSource(1))
	for range 500 {
		l := some(random, 40, 20)
		what := short(l)
		m, e := dist.Mean(l)
		middle := mean(l, func(v *big.Rat) *big.Rat { return v })
		expect(t, "Mean "+what, results(m, e), results(text(middle), api.OK))
		variance, e := dist.Variance(l)
		square := mean(l, func(v *big.Rat) *big.Rat { d := new(big.Rat).Sub(v, middle); return d.Mul(d, d) })
		expect(t, "Variance "+what, results(variance, e), results(text(square), api.OK))
		low := random.Intn(100) - 30
		x := limits(low, low+random.Intn(60))
		p, e := dist.Probability(l, x)
		between := mean(l, func(v *big.Rat) *big.Rat {
			if v.Cmp(big.NewRat(int64(x.Low), 1)) >= 0 && v.Cmp(big.NewRat(int64(x.High), 1)) <= 0 {
				return big.NewRat(1, 1)
			}
			return new(big.Rat)
		})
		expect(t, "Probability "+what, results(p, e), results(text(between), api.OK))
	}
}

// P26.1: quantiles for probabilities at the steps of the distribution, and beside them as closely as the length of numbers permits.
func TestQuantiles(t *testing.T) {
	random := rand.New(rand.NewSource(2))
	near := new(big.Rat).SetFrac(big.NewInt(1), new(big.Int).Exp(big.NewInt(10), big.NewInt(1000), nil))
	for range 60 {
		l := some(random, 40, 20)
		for i, sum := range upTo(l) {
			below, above := new(big.Rat).Sub(sum, near), new(big.Rat).Add(sum, near)
			for _, p := range []*big.Rat{below, sum} {
				q, e := dist.Quantile(l, text(p))
				expect(t, fmt.Sprint("Quantile ", short(l), i), results(q, e), results(l[i].Value, api.OK))
			}
			if i+1 < len(l) {
				q, e := dist.Quantile(l, text(above))
				expect(t, fmt.Sprint("Quantile above ", short(l), i), results(q, e), results(l[i+1].Value, api.OK))
			}
		}
		p := big.NewRat(random.Int63n(1001), 1000)
		want := slices.IndexFunc(upTo(l), func(sum *big.Rat) bool { return sum.Cmp(p) >= 0 })
		q, e := dist.Quantile(l, text(p))
		expect(t, fmt.Sprint("Quantile ", short(l), p), results(q, e), results(l[want].Value, api.OK))
	}
	// Many elements with long weights: the one of little weight makes all probabilities before it less than so many of 4095.
	weights := make([]api.Weighted, api.MaxEvents)
	for i := range weights {
		weights[i] = api.Weighted{Value: i, Weight: api.Int("7" + nines(1000))}
	}
	weights[9].Weight = "1"
	for _, x := range []struct {
		p api.Rat
		q int
	}{{"0", 0}, {"1/4095", 1}, {"1/4096", 0}, {"2/4095", 2}, {"2048/4095", 2048}, {"4094/4095", 4094}, {"1", 4095}} {
		q, e := dist.Quantile(weights, x.p)
		expect(t, fmt.Sprint("Quantile of many ", x.p), results(q, e), results(x.q, api.OK))
	}
}

// P26.3: all probabilities add up to 1; weights with a common factor change nothing; the mean lies between the outermost quantiles.
func TestLaws(t *testing.T) {
	random := rand.New(rand.NewSource(3))
	for range 200 {
		l := some(random, 12, 6)
		what := fmt.Sprint(l)
		sum := new(big.Rat)
		for _, x := range l {
			p, _ := dist.Probability(l, limits(x.Value, x.Value))
			sum.Add(sum, value(string(p)))
		}
		m, _ := dist.Mean(l)
		low, _ := dist.Quantile(l, "0")
		high, _ := dist.Quantile(l, "1")
		between := value(string(m)).Cmp(big.NewRat(int64(low), 1)) >= 0 && value(string(m)).Cmp(big.NewRat(int64(high), 1)) <= 0
		expect(t, what, results(text(sum), between, low, high), results("1", true, l[0].Value, l[len(l)-1].Value))
		factor := some(random, 1, []int{1, 10, 1010}[random.Intn(3)])[0].Weight
		expectSame(t, l, times(l, factor), limits(low+1, high))
		reduced, e := dist.Reduce(times(l, factor))
		again, f := dist.Reduce(l)
		expect(t, "Reduce "+what, results(reduced, e), results(again, f))
		expectScaled(t, random, l)
		shuffled := slices.Concat(l, list("1:0 999:0"))
		random.Shuffle(len(shuffled), func(i, j int) { shuffled[i], shuffled[j] = shuffled[j], shuffled[i] })
		collected, e := dist.Collect(shuffled)
		expect(t, "Collect "+what, results(collected, e), results(l, api.OK))
	}
}

// times returns a distribution with its weights multiplied.
func times(l []api.Weighted, factor api.Int) []api.Weighted {
	l = slices.Clone(l)
	for i, x := range l {
		product := value(string(x.Weight))
		l[i].Weight = api.Int(product.Mul(product, value(string(factor))).RatString())
	}
	return l
}

// expectSame compares two distributions that must have the same probabilities.
func expectSame(t *testing.T, l, other []api.Weighted, x api.Limits) {
	t.Helper()
	var all [2][]any
	for i, l := range [][]api.Weighted{l, other} {
		m, e := dist.Mean(l)
		variance, f := dist.Variance(l)
		p, g := dist.Probability(l, x)
		q, h := dist.Quantile(l, "1/3")
		all[i] = results(m, e, variance, f, p, g, q, h)
	}
	expect(t, "the same as "+short(l), all[1], all[0])
}

// expectScaled checks what scaling does to the mean and the variance.
func expectScaled(t *testing.T, random *rand.Rand, l []api.Weighted) {
	t.Helper()
	k, by := random.Intn(19)-9, random.Intn(200)-100
	if k == 0 {
		k = -10
	}
	scaled, e := dist.Scale(l, k, by)
	expect(t, "Scale "+short(l), results(e, dist.Check(scaled), len(scaled)), results(api.OK, api.OK, len(l)))
	m, _ := dist.Mean(l)
	variance, _ := dist.Variance(l)
	m2, _ := dist.Mean(scaled)
	variance2, _ := dist.Variance(scaled)
	factor := big.NewRat(int64(k), 1)
	mean := new(big.Rat).Mul(value(string(m)), factor)
	mean.Add(mean, big.NewRat(int64(by), 1))
	square := new(big.Rat).Mul(value(string(variance)), factor)
	square.Mul(square, factor)
	expect(t, fmt.Sprint("scaled ", short(l), k, by), results(m2, variance2), results(text(mean), text(square)))
}

// P26.2 and P26.3: binomial distributions have the mean n p and the variance n p (1 - p).
func TestBinomials(t *testing.T) {
	random := rand.New(rand.NewSource(4))
	for range 150 {
		n, den := random.Intn(60), 1+random.Intn(1000)
		num := random.Intn(den + 1)
		l, e := dist.Binomial(n, num, den)
		what := fmt.Sprint("Binomial ", n, num, den)
		expect(t, what, results(l, e, dist.Check(l)), results(binomial(n, num, den), api.OK, api.OK))
		m, e := dist.Mean(l)
		p, trials := big.NewRat(int64(num), int64(den)), big.NewRat(int64(n), 1)
		mean := new(big.Rat).Mul(trials, p)
		expect(t, what, results(m, e), results(text(mean), api.OK))
		variance, e := dist.Variance(l)
		mean.Mul(mean, p.Sub(big.NewRat(1, 1), p))
		expect(t, what, results(variance, e), results(text(mean), api.OK))
	}
}

// P26.1 and P26.2: no argument is changed, and no result shares memory with one.
func TestMemory(t *testing.T) {
	l, same := list("1:2 2:4 4:2"), list("1:2 2:4 4:2")
	for i, call := range []func() []api.Weighted{
		func() []api.Weighted { m, _ := dist.Scale(l, 1, 0); return m },
		func() []api.Weighted { m, _ := dist.Scale(l, -1, 0); return m },
		func() []api.Weighted { m, _ := dist.Reduce(l); return m },
		func() []api.Weighted { m, _ := dist.Reduce(list("0:1")); return m },
		func() []api.Weighted { m, _ := dist.Collect(l); return m },
		func() []api.Weighted { m, _ := dist.Uniform(1, 3, 1); return m },
		func() []api.Weighted { m, _ := dist.Binomial(3, 1, 2); return m },
		func() []api.Weighted {
			dist.Mean(l)
			dist.Variance(l)
			dist.Probability(l, limits(0, 9))
			dist.Quantile(l, "1/2")
			return nil
		},
	} {
		got := call()
		want := slices.Clone(got)
		clear(got)
		expect(t, fmt.Sprint("call ", i), results(call(), l), results(want, same))
	}
}
