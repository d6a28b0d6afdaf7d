package ratio

import (
	"metrolab/api"
	"metrolab/whole"
)

// fraction is a numerator and a denominator.
type fraction struct{ num, den api.Int }

// check returns the error of the text of a fraction; written says that its denominator stands there.
func (f fraction) check(written bool) api.Errno {
	num, den := whole.Check(f.num), whole.Check(f.den)
	switch {
	case num == api.ErrForm:
		return num
	case den != api.OK:
		return den
	case num != api.OK:
		return num
	case written && !f.lowest():
		return api.ErrForm
	}
	return api.OK
}

// lowest reports whether the denominator is greater than 1, and has no common divisor with the numerator.
func (f fraction) lowest() bool {
	order, _ := whole.Compare(f.den, "1")
	if order <= 0 {
		return false
	}
	divisor, _ := whole.Gcd(f.num, f.den)
	return divisor == "1"
}

// text writes a fraction in lowest terms.
func (f fraction) text() api.Rat {
	if f.den == "1" {
		return api.Rat(f.num)
	}
	return api.Rat(f.num + "/" + f.den)
}
