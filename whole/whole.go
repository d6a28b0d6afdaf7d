// Package whole implements layer 1: integers of any size.
package whole

import (
	"math/bits"
	"strconv"
	"strings"

	"metrolab/api"
)

// Check returns OK for canonical integers.
func Check(a api.Int) api.Errno {
	digits := strings.TrimPrefix(string(a), "-")
	for i := range len(digits) {
		if digits[i] < '0' || digits[i] > '9' {
			return api.ErrForm
		}
	}
	switch {
	case digits == "", digits[0] == '0' && a != "0":
		return api.ErrForm
	case len(digits) > api.MaxLong:
		return api.ErrLarge
	}
	return api.OK
}

// checkAll returns the first error of several integers.
func checkAll(l ...api.Int) api.Errno {
	for _, a := range l {
		if e := Check(a); e != api.OK {
			return e
		}
	}
	return api.OK
}

// Of returns an int as an integer.
func Of(n int) api.Int { return api.Int(strconv.Itoa(n)) }

// Small returns an integer as an int.
func Small(a api.Int) (int, api.Errno) {
	if e := Check(a); e != api.OK {
		return 0, e
	}
	n, err := strconv.Atoi(string(a))
	if err != nil {
		return 0, api.ErrRange
	}
	return n, api.OK
}

// Sign returns -1, 0 or 1 for negative numbers, 0 and positive numbers.
func Sign(a api.Int) (int, api.Errno) {
	if e := Check(a); e != api.OK {
		return 0, e
	}
	return sign(a), api.OK
}

func sign(a api.Int) int {
	switch a[0] {
	case '-':
		return -1
	case '0':
		return 0
	}
	return 1
}

// Compare returns -1, 0 or 1 if a is less than, equal to or greater than b.
func Compare(a, b api.Int) (int, api.Errno) {
	if e := checkAll(a, b); e != api.OK {
		return 0, e
	}
	s, t := sign(a), sign(b)
	switch {
	case a == b:
		return 0, api.OK
	case s != t:
		return order(s < t), api.OK
	case s < 0: // of two negative numbers, the one with the greater magnitude is less
		a, b = b, a
	}
	return order(len(a) < len(b) || len(a) == len(b) && a < b), api.OK
}

// Add returns the sum.
func Add(a, b api.Int) (api.Int, api.Errno) { return sum(a, b) }

// Sub returns the difference.
func Sub(a, b api.Int) (api.Int, api.Errno) {
	if e := checkAll(a, b); e != api.OK {
		return "", e
	}
	return sum(a, opposite(b))
}

// sum adds integers. A sum of some of them may be too long on the way to one that is not.
func sum(l ...api.Int) (api.Int, api.Errno) {
	if e := checkAll(l...); e != api.OK {
		return "", e
	}
	var total number
	for _, a := range l {
		var x number
		x.read(a)
		total.add(&x)
	}
	return total.text()
}

// Neg returns the opposite number.
func Neg(a api.Int) (api.Int, api.Errno) {
	if e := Check(a); e != api.OK {
		return "", e
	}
	return opposite(a), api.OK
}

func opposite(a api.Int) api.Int {
	switch sign(a) {
	case -1:
		return a[1:]
	case 0:
		return a
	}
	return "-" + a
}

// Mul returns the product.
func Mul(a, b api.Int) (api.Int, api.Errno) {
	if e := checkAll(a, b); e != api.OK {
		return "", e
	}
	var x, y, product number
	x.read(a)
	y.read(b)
	product.multiply(&x, &y)
	return product.text()
}

// Quo returns the quotient, rounded down.
func Quo(a, b api.Int) (api.Int, api.Errno) {
	var quotient, rest number
	if e := divide(a, b, &quotient, &rest); e != api.OK {
		return "", e
	}
	return quotient.text()
}

// Rem returns the remainder of the quotient.
func Rem(a, b api.Int) (api.Int, api.Errno) {
	var quotient, rest number
	if e := divide(a, b, &quotient, &rest); e != api.OK {
		return "", e
	}
	return rest.text()
}

// divide makes two numbers, which are 0, the quotient and the remainder of a and b.
func divide(a, b api.Int, quotient, rest *number) api.Errno {
	if e := checkAll(a, b); e != api.OK {
		return e
	}
	if b == "0" {
		return api.ErrZero
	}
	var part number
	rest.read(a)
	part.read(b)
	rest.divide(&part, quotient)
	return api.OK
}

// Gcd returns the greatest common divisor.
func Gcd(a, b api.Int) (api.Int, api.Errno) {
	if e := checkAll(a, b); e != api.OK {
		return "", e
	}
	var x, y number
	x.read(a)
	y.read(b)
	return gcd(&x, &y).text()
}

// Pow returns a power.
func Pow(a api.Int, n int) (api.Int, api.Errno) {
	if e := Check(a); e != api.OK {
		return "", e
	}
	if n < 0 || n > api.MaxEvents {
		return "", api.ErrRange
	}
	var x, power number
	x.read(a)
	power.read("1")
	// From the highest bit of n on, no power on the way has more digits than the last one.
	for i := bits.Len(uint(n)) - 1; i >= 0; i-- {
		if !power.times(&power) || n>>i&1 == 1 && !power.times(&x) {
			return "", api.ErrLarge
		}
	}
	return power.text()
}

// times multiplies n by b and reports whether the product is not too long.
func (n *number) times(b *number) bool {
	var product number
	product.multiply(n, b)
	n.set(&product)
	return !n.long()
}

// Binomial returns the number of sets of k elements among n.
func Binomial(n, k int) (api.Int, api.Errno) {
	switch {
	case n < 0 || n > api.MaxEvents:
		return "", api.ErrRange
	case k < 0 || k > n:
		return "0", api.OK
	}
	var sets number
	sets.read("1")
	// Up to half of n, the binomials rise, so that one that is too long ends the search.
	for i := range min(k, n-k) {
		sets.scale(uint32(n - i))
		sets.split(uint32(i + 1))
		if sets.long() {
			return "", api.ErrLarge
		}
	}
	return sets.text()
}

// Total returns the sum of integers.
func Total(l []api.Int) (api.Int, api.Errno) {
	if len(l) > api.MaxEvents {
		return "", api.ErrMany
	}
	return sum(l...)
}
