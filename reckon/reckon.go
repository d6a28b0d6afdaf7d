// Package reckon helps the layers that calculate with rational numbers and integers in many steps.
package reckon

import (
	"metrolab/api"
	"metrolab/ratio"
	"metrolab/whole"
)

// Keeper calculates and keeps the first error of all its steps, so that it is asked for only at the end.
// What is calculated behind an error means nothing.
type Keeper struct{ api.Errno }

// Result returns what a calculation gives, or its first error alone.
func Result[T any](calculate func(k *Keeper) T) (T, api.Errno) {
	var k Keeper
	result := calculate(&k)
	if k.Errno != api.OK {
		return *new(T), k.Errno
	}
	return result, api.OK
}

// Check returns the error of the first number of lists with one.
func Check(lists ...[]api.Rat) api.Errno {
	for _, l := range lists {
		for _, a := range l {
			if e := ratio.Check(a); e != api.OK {
				return e
			}
		}
	}
	return api.OK
}

// Keep keeps an error unless there was one before.
func (k *Keeper) Keep(e api.Errno) {
	if k.Errno == api.OK {
		k.Errno = e
	}
}

// Of returns the result of an operation with two numbers.
func (k *Keeper) Of(operation func(a, b api.Rat) (api.Rat, api.Errno), a, b api.Rat) api.Rat {
	c, e := operation(a, b)
	k.Keep(e)
	return c
}

// Order returns -1, 0 or 1 if a is less than, equal to or greater than b.
func (k *Keeper) Order(a, b api.Rat) int {
	order, e := ratio.Compare(a, b)
	k.Keep(e)
	return order
}

// Sum returns a + b. Of denominators with common divisors, ratio.Add makes longer products than the sum needs;
// here only the numerator over the least common denominator, and this denominator, may be too long.
func (k *Keeper) Sum(a, b api.Rat) api.Rat {
	n, p := k.Parts(a)
	m, q := k.Parts(b)
	common := k.Whole(whole.Gcd, p, q)
	more, other := k.Over(q, common), k.Over(p, common)
	num := k.Plus(k.Times(n, more), k.Times(m, other))
	return k.Quotient(num, k.Times(p, more))
}

// Difference returns a - b, as Sum does.
func (k *Keeper) Difference(a, b api.Rat) api.Rat {
	opposite, e := ratio.Neg(b)
	k.Keep(e)
	return k.Sum(a, opposite)
}

// Product returns a b. It is too long only if the product in lowest terms is, unlike that of ratio.Mul.
func (k *Keeper) Product(a, b api.Rat) api.Rat {
	n, p := k.Parts(a)
	m, q := k.Parts(b)
	x, y := k.Quotient(n, q), k.Quotient(m, p)
	n, q = k.Parts(x)
	m, p = k.Parts(y)
	return k.Quotient(k.Times(n, m), k.Times(p, q))
}

// Dot returns the sum of the products of the numbers of two lists. Products with 0 are left out.
func (k *Keeper) Dot(a, b []api.Rat) api.Rat {
	sum := api.Rat("0")
	for i, x := range a {
		if x != "0" && b[i] != "0" {
			sum = k.Sum(sum, k.Product(x, b[i]))
		}
	}
	return sum
}

// Parts returns the numerator and the denominator of a number.
func (k *Keeper) Parts(a api.Rat) (api.Int, api.Int) {
	num, den, e := ratio.Parts(a)
	k.Keep(e)
	return num, den
}

// Quotient returns the quotient of two integers in lowest terms.
func (k *Keeper) Quotient(num, den api.Int) api.Rat {
	a, e := ratio.Make(num, den)
	k.Keep(e)
	return a
}
