// Package reckon helps the layers that calculate with rational numbers in many steps.
package reckon

import (
	"metrolab/api"
	"metrolab/ratio"
	"metrolab/whole"
)

// Keeper calculates and keeps the first error of all its steps, so that it is asked for only at the end.
// What is calculated behind an error means nothing.
type Keeper struct{ api.Errno }

// Result returns what a calculation gives, or its first error alone.
func Result[T any](calculate func(k *Keeper) T) (T, api.Errno) {
	var k Keeper
	result := calculate(&k)
	if k.Errno != api.OK {
		return *new(T), k.Errno
	}
	return result, api.OK
}

// Keep keeps an error unless there was one before.
func (k *Keeper) Keep(e api.Errno) {
	if k.Errno == api.OK {
		k.Errno = e
	}
}

// Of returns the result of an operation with two numbers.
func (k *Keeper) Of(operation func(a, b api.Rat) (api.Rat, api.Errno), a, b api.Rat) api.Rat {
	c, e := operation(a, b)
	k.Keep(e)
	return c
}

// Order returns -1, 0 or 1 if a is less than, equal to or greater than b.
func (k *Keeper) Order(a, b api.Rat) int {
	order, e := ratio.Compare(a, b)
	k.Keep(e)
	return order
}

// Sum returns a + b. Of denominators with common divisors, ratio.Add makes longer products than the sum needs;
// here only the numerator over the least common denominator, and this denominator, may be too long.
func (k *Keeper) Sum(a, b api.Rat) api.Rat {
	n, p := k.parts(a)
	m, q := k.parts(b)
	common := k.whole(whole.Gcd, p, q)
	more, other := k.whole(whole.Quo, q, common), k.whole(whole.Quo, p, common)
	num := k.whole(whole.Add, k.whole(whole.Mul, n, more), k.whole(whole.Mul, m, other))
	return k.quotient(num, k.whole(whole.Mul, p, more))
}

// Difference returns a - b, as Sum does.
func (k *Keeper) Difference(a, b api.Rat) api.Rat {
	opposite, e := ratio.Neg(b)
	k.Keep(e)
	return k.Sum(a, opposite)
}

// Product returns a b. It is too long only if the product in lowest terms is, unlike that of ratio.Mul.
func (k *Keeper) Product(a, b api.Rat) api.Rat {
	n, p := k.parts(a)
	m, q := k.parts(b)
	x, y := k.quotient(n, q), k.quotient(m, p)
	n, q = k.parts(x)
	m, p = k.parts(y)
	return k.quotient(k.whole(whole.Mul, n, m), k.whole(whole.Mul, p, q))
}

func (k *Keeper) parts(a api.Rat) (api.Int, api.Int) {
	num, den, e := ratio.Parts(a)
	k.Keep(e)
	return num, den
}

func (k *Keeper) quotient(num, den api.Int) api.Rat {
	a, e := ratio.Make(num, den)
	k.Keep(e)
	return a
}

func (k *Keeper) whole(operation func(a, b api.Int) (api.Int, api.Errno), a, b api.Int) api.Int {
	c, e := operation(a, b)
	k.Keep(e)
	return c
}
