// Package ratio implements layer 2: rational numbers, and signs of sums with square roots.
package ratio

import (
	"metrolab/api"
	"metrolab/whole"
)

// result makes a number of the terms that a calculation gives.
func result(terms func(k *keeper) fraction) (api.Rat, api.Errno) {
	var k keeper
	f := terms(&k)
	if k.Errno != api.OK {
		return "", k.Errno
	}
	return f.text(), api.OK
}

// decision returns the sign that a calculation gives.
func decision(sign func(k *keeper) int) (int, api.Errno) {
	var k keeper
	s := sign(&k)
	if k.Errno != api.OK {
		return 0, k.Errno
	}
	return s, api.OK
}

// Check returns OK for rational numbers in canonical form.
func Check(a api.Rat) api.Errno {
	var k keeper
	k.split(a)
	return k.Errno
}

// Make returns the quotient of two integers.
func Make(num, den api.Int) (api.Rat, api.Errno) {
	return result(func(k *keeper) fraction {
		k.keep(whole.Check(num))
		if k.sign(den) == 0 {
			k.keep(api.ErrZero)
		}
		return k.reduce(fraction{num, den})
	})
}

// Of returns the quotient of two ints.
func Of(num, den int) (api.Rat, api.Errno) {
	return Make(whole.Of(num), whole.Of(den))
}

// Whole returns an int as a rational number.
func Whole(n int) api.Rat { return api.Rat(whole.Of(n)) }

// Parts returns the numerator and the denominator.
func Parts(a api.Rat) (api.Int, api.Int, api.Errno) {
	var k keeper
	f := k.split(a)
	if k.Errno != api.OK {
		return "", "", k.Errno
	}
	return f.num, f.den, api.OK
}

// Sign returns -1, 0 or 1 for negative numbers, 0 and positive numbers.
func Sign(a api.Rat) (int, api.Errno) {
	return decision(func(k *keeper) int {
		return k.sign(k.split(a).num)
	})
}

// Compare returns -1, 0 or 1 if a is less than, equal to or greater than b.
func Compare(a, b api.Rat) (int, api.Errno) {
	return decision(func(k *keeper) int {
		x, y := k.split(a), k.split(b)
		return k.order(x, y)
	})
}

// ofTwo makes a number of the terms that a calculation with two numbers gives.
func ofTwo(a, b api.Rat, terms func(k *keeper, x, y fraction) fraction) (api.Rat, api.Errno) {
	return result(func(k *keeper) fraction {
		x, y := k.split(a), k.split(b)
		return terms(k, x, y)
	})
}

// Add returns the sum.
func Add(a, b api.Rat) (api.Rat, api.Errno) { return ofTwo(a, b, (*keeper).sum) }

// Sub returns the difference.
func Sub(a, b api.Rat) (api.Rat, api.Errno) { return ofTwo(a, b, (*keeper).difference) }

// Mul returns the product.
func Mul(a, b api.Rat) (api.Rat, api.Errno) { return ofTwo(a, b, (*keeper).product) }

// Div returns the quotient.
func Div(a, b api.Rat) (api.Rat, api.Errno) {
	return ofTwo(a, b, func(k *keeper, x, y fraction) fraction {
		if k.sign(y.num) == 0 {
			k.keep(api.ErrZero)
		}
		return k.product(x, fraction{y.den, y.num})
	})
}

// Neg returns the opposite number.
func Neg(a api.Rat) (api.Rat, api.Errno) {
	return result(func(k *keeper) fraction {
		x := k.split(a)
		return fraction{k.opposite(x.num), x.den}
	})
}

// Floor returns the greatest integer that is not greater.
func Floor(a api.Rat) (api.Int, api.Errno) {
	var k keeper
	x := k.split(a)
	floor := k.quotient(x.num, x.den)
	if k.Errno != api.OK {
		return "", k.Errno
	}
	return floor, api.OK
}

// Sum adds the numbers of a list to 0, one after the other.
func Sum(l []api.Rat) (api.Rat, api.Errno) {
	if len(l) > api.MaxEvents {
		return "", api.ErrMany
	}
	return result(func(k *keeper) fraction {
		terms := make([]fraction, len(l))
		for i, a := range l {
			terms[i] = k.split(a)
		}
		total := fraction{"0", "1"}
		for _, x := range terms {
			total = k.sum(total, x)
		}
		return total
	})
}
