package ratio

import (
	"strings"

	"metrolab/api"
	"metrolab/whole"
)

// keeper calculates and keeps the first error of all its steps, so that it is asked for only at the end.
// What is calculated behind an error means nothing.
type keeper struct{ api.Errno }

func (k *keeper) keep(e api.Errno) {
	if k.Errno == api.OK {
		k.Errno = e
	}
}

// of returns the result of an operation with two integers, and keeps its error.
func (k *keeper) of(operation func(a, b api.Int) (api.Int, api.Errno), a, b api.Int) api.Int {
	c, e := operation(a, b)
	k.keep(e)
	return c
}

func (k *keeper) times(a, b api.Int) api.Int { return k.of(whole.Mul, a, b) }

func (k *keeper) plus(a, b api.Int) api.Int { return k.of(whole.Add, a, b) }

func (k *keeper) minus(a, b api.Int) api.Int { return k.of(whole.Sub, a, b) }

func (k *keeper) quotient(a, b api.Int) api.Int { return k.of(whole.Quo, a, b) }

func (k *keeper) divisor(a, b api.Int) api.Int { return k.of(whole.Gcd, a, b) }

func (k *keeper) opposite(a api.Int) api.Int {
	opposite, e := whole.Neg(a)
	k.keep(e)
	return opposite
}

func (k *keeper) sign(a api.Int) int {
	sign, e := whole.Sign(a)
	k.keep(e)
	return sign
}

// split reads the text of a rational number.
func (k *keeper) split(a api.Rat) fraction {
	num, den, written := strings.Cut(string(a), "/")
	if !written {
		den = "1"
	}
	f := fraction{api.Int(num), api.Int(den)}
	k.keep(f.check(written))
	return f
}

// reduce brings a fraction, whose denominator is not 0, to lowest terms.
func (k *keeper) reduce(f fraction) fraction {
	divisor := k.divisor(f.num, f.den)
	if k.sign(f.den) < 0 {
		divisor = k.opposite(divisor)
	}
	if divisor == "1" {
		return f
	}
	return fraction{k.quotient(f.num, divisor), k.quotient(f.den, divisor)}
}

// join makes one fraction of the products of each numerator with the other denominator.
func (k *keeper) join(x, y fraction, how func(a, b api.Int) api.Int) fraction {
	num := how(k.times(x.num, y.den), k.times(y.num, x.den))
	return k.reduce(fraction{num, k.times(x.den, y.den)})
}

func (k *keeper) sum(x, y fraction) fraction { return k.join(x, y, k.plus) }

func (k *keeper) difference(x, y fraction) fraction { return k.join(x, y, k.minus) }

func (k *keeper) product(x, y fraction) fraction {
	return k.reduce(fraction{k.times(x.num, y.num), k.times(x.den, y.den)})
}

// order returns -1, 0 or 1 if x is less than, equal to or greater than y.
func (k *keeper) order(x, y fraction) int {
	order, e := whole.Compare(k.times(x.num, y.den), k.times(y.num, x.den))
	k.keep(e)
	return order
}
