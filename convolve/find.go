package convolve

import (
	"metrolab/api"
	"metrolab/dist"
	"metrolab/reckon"
)

// Parts returns the first choice of values with a value of a stack.
func Parts(l [][]api.Weighted, signs []int, value int) ([]int, api.Errno) {
	if _, e := Stack(l, signs); e != api.OK {
		return nil, e
	}
	reach := reachable(l, signs)
	if !reach[0][value] {
		return nil, api.ErrNone
	}
	var parts []int
	var choose func(rest int)
	choose = func(rest int) {
		i := len(parts)
		if i == len(l) {
			return
		}
		for _, x := range l[i] {
			left := rest - signs[i]*x.Value
			if reach[i+1][left] {
				parts = append(parts, x.Value)
				choose(left)
				return
			}
		}
	}
	choose(value)
	return parts, api.OK
}

// reachable returns, for each place in a stack, the set of the values that the distributions from there on can have together.
// Such a set is never larger than that of the values of the whole stack.
func reachable(l [][]api.Weighted, signs []int) []map[int]bool {
	scaled, _ := signed(l, signs)
	reach := make([]map[int]bool, len(l)+1)
	reach[len(l)] = start()
	for i := len(l) - 1; i >= 0; i-- {
		reach[i] = sums(reach[i+1], scaled[i])
	}
	return reach
}

// Shortest returns the limits with the least difference between which the probability is at least p.
func Shortest(l []api.Weighted, p api.Rat) (api.Limits, api.Errno) {
	// A quantile has the same errors; where it has none, the total of the reduced weights is not too long.
	if _, e := dist.Quantile(l, p); e != api.OK {
		return api.Limits{}, e
	}
	reduced, _ := dist.Reduce(l)
	total, _ := dist.Total(reduced)
	return reckon.Result(func(k *reckon.Keeper) api.Limits {
		num, den := k.Parts(p)
		return shortest(k, reduced, func(weight api.Int) bool {
			return k.OrderOf(reckon.Fraction{Num: weight, Den: total}, reckon.Fraction{Num: num, Den: den}) >= 0
		})
	})
}

// shortest returns the limits with the least difference whose values have enough weight together, as all values have.
func shortest(k *reckon.Keeper, l []api.Weighted, enough func(weight api.Int) bool) api.Limits {
	best := api.Limits{Low: l[0].Value, High: l[len(l)-1].Value}
	first, weight := 0, api.Int("0")
	for last, x := range l {
		weight = k.Plus(weight, x.Weight)
		for first < last {
			less := k.Minus(weight, l[first].Weight)
			if !enough(less) {
				break
			}
			first, weight = first+1, less
		}
		// Of several limits the first ones count, as their Low is the least.
		if low := l[first].Value; x.Value-low < best.High-best.Low && enough(weight) {
			best = api.Limits{Low: low, High: x.Value}
		}
	}
	return best
}
