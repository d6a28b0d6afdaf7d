package dist

import (
	"maps"
	"slices"

	"metrolab/api"
	"metrolab/checks"
	"metrolab/reckon"
	"metrolab/whole"
)

// Uniform returns the distribution with the weight 1 for each value.
func Uniform(low, high, step int) ([]api.Weighted, api.Errno) {
	if e := checks.First(
		checks.When(!inRange(low, high), api.ErrRange),
		checks.When(step < 1 || step > api.MaxTotal, api.ErrRange),
		checks.When(low > high, api.ErrOrder),
	); e != api.OK {
		return nil, e
	}
	if (high-low)/step >= api.MaxEvents {
		return nil, api.ErrMany
	}
	var l []api.Weighted
	for value := low; value <= high; value += step {
		l = append(l, api.Weighted{Value: value, Weight: "1"})
	}
	return l, api.OK
}

// Binomial returns the distribution of the number of successes.
func Binomial(n, num, den int) ([]api.Weighted, api.Errno) {
	if e := checks.First(
		checks.When(n < 0 || n > api.MaxList, api.ErrRange),
		checks.When(den < 1 || den > api.MaxTotal, api.ErrRange),
		checks.When(num < 0 || num > den, api.ErrRange),
	); e != api.OK {
		return nil, e
	}
	return reckon.Result(func(k *reckon.Keeper) []api.Weighted {
		var l []api.Weighted
		for successes := range n + 1 {
			sets, e := whole.Binomial(n, successes)
			k.Keep(e)
			weight := k.Times(sets, k.Times(power(k, num, successes), power(k, den-num, n-successes)))
			if weight != "0" {
				l = append(l, api.Weighted{Value: successes, Weight: weight})
			}
		}
		return l
	})
}

func power(k *reckon.Keeper, base, exponent int) api.Int {
	power, e := whole.Pow(whole.Of(base), exponent)
	k.Keep(e)
	return power
}

// Scale returns the distribution of k times the value, plus by.
func Scale(l []api.Weighted, k, by int) ([]api.Weighted, api.Errno) {
	if e := checks.First(
		checks.Each(Check, l),
		checks.When(k == 0, api.ErrZero),
		checks.When(!inRange(k, by), api.ErrRange),
	); e != api.OK {
		return nil, e
	}
	var scaled []api.Weighted
	for _, x := range l {
		value := k*x.Value + by
		if !inRange(value) {
			return nil, api.ErrRange
		}
		scaled = append(scaled, api.Weighted{Value: value, Weight: x.Weight})
	}
	if k < 0 {
		slices.Reverse(scaled)
	}
	return scaled, api.OK
}

// Reduce returns the distribution whose weights are divided by their greatest common divisor.
func Reduce(l []api.Weighted) ([]api.Weighted, api.Errno) {
	if e := Check(l); e != api.OK {
		return nil, e
	}
	return reckon.Result(func(k *reckon.Keeper) []api.Weighted {
		divisor := api.Int("0")
		for _, x := range l {
			divisor = k.Whole(whole.Gcd, divisor, x.Weight)
		}
		reduced := slices.Clone(l)
		for i, x := range l {
			reduced[i].Weight = k.Over(x.Weight, divisor)
		}
		return reduced
	})
}

// Collect returns the distribution of elements in any order.
func Collect(l []api.Weighted) ([]api.Weighted, api.Errno) {
	if e := checks.First(
		checks.When(len(l) > api.MaxEvents, api.ErrMany),
		checks.Each(func(x api.Weighted) api.Errno { return checkElement(x, 0) }, l...),
	); e != api.OK {
		return nil, e
	}
	weights := map[int]api.Int{}
	for _, x := range l {
		sum, ok := weights[x.Value]
		if !ok {
			sum = "0"
		}
		sum, e := whole.Add(sum, x.Weight)
		if e != api.OK {
			return nil, e
		}
		weights[x.Value] = sum
	}
	var collected []api.Weighted
	for _, value := range slices.Sorted(maps.Keys(weights)) {
		if weight := weights[value]; weight != "0" {
			collected = append(collected, api.Weighted{Value: value, Weight: weight})
		}
	}
	if len(collected) == 0 {
		return nil, api.ErrEmpty
	}
	return collected, api.OK
}
