package reckon

import (
	"metrolab/api"
	"metrolab/whole"
)

// Fraction is a quotient of integers, which need not be in lowest terms. They are not negative, and the denominator is not 0.
type Fraction struct{ Num, Den api.Int }

// OrderOf returns -1, 0 or 1 if x is less than, equal to or greater than y.
// Products of the numerators with the denominators could be too long. So whole quotients are compared, and if they are equal,
// what is left of the fractions turned round, where the greater one is the lesser one.
func (k *Keeper) OrderOf(x, y Fraction) int {
	for k.Errno == api.OK {
		if sign := k.Sign(k.Minus(k.Over(x.Num, x.Den), k.Over(y.Num, y.Den))); sign != 0 {
			return sign
		}
		x.Num, y.Num = k.Whole(whole.Rem, x.Num, x.Den), k.Whole(whole.Rem, y.Num, y.Den)
		if x.Num == "0" || y.Num == "0" {
			return k.Sign(k.Minus(x.Num, y.Num))
		}
		x, y = Fraction{y.Den, y.Num}, Fraction{x.Den, x.Num}
	}
	return 0
}
