package reckon

import (
	"metrolab/api"
	"metrolab/whole"
)

// Whole returns the result of an operation with two integers.
func (k *Keeper) Whole(operation func(a, b api.Int) (api.Int, api.Errno), a, b api.Int) api.Int {
	c, e := operation(a, b)
	k.Keep(e)
	return c
}

// Plus returns a + b.
func (k *Keeper) Plus(a, b api.Int) api.Int { return k.Whole(whole.Add, a, b) }

// Minus returns a - b.
func (k *Keeper) Minus(a, b api.Int) api.Int { return k.Whole(whole.Sub, a, b) }

// Times returns a b.
func (k *Keeper) Times(a, b api.Int) api.Int { return k.Whole(whole.Mul, a, b) }

// Over returns a divided by b, rounded down.
func (k *Keeper) Over(a, b api.Int) api.Int { return k.Whole(whole.Quo, a, b) }

// Sign returns -1, 0 or 1 for negative integers, 0 and positive integers.
func (k *Keeper) Sign(a api.Int) int {
	sign, e := whole.Sign(a)
	k.Keep(e)
	return sign
}

// Products returns the sum of the products of the integers of two lists.
func (k *Keeper) Products(a, b []api.Int) api.Int {
	sum := api.Int("0")
	for i, x := range a {
		sum = k.Plus(sum, k.Times(x, b[i]))
	}
	return sum
}

// Combine makes a row what is left of pivot times it without its own number at some place times another row, divided by den.
// If the other row has the pivot at this place, 0 is left there.
func (k *Keeper) Combine(row, other []api.Int, at int, pivot, den api.Int) {
	factor := row[at]
	for i, x := range row {
		row[i] = k.Over(k.Minus(k.Times(x, pivot), k.Times(factor, other[i])), den)
	}
}

// Common returns the numerators of numbers over their least common denominator, and this denominator.
func (k *Keeper) Common(l []api.Rat) ([]api.Int, api.Int) {
	common := api.Int("1")
	for _, a := range l {
		_, den := k.Parts(a)
		common = k.Times(common, k.Over(den, k.Whole(whole.Gcd, common, den)))
	}
	var numerators []api.Int
	for _, a := range l {
		num, den := k.Parts(a)
		numerators = append(numerators, k.Times(num, k.Over(common, den)))
	}
	return numerators, common
}
