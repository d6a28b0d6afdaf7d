package dimension

import (
	"metrolab/api"
	"metrolab/checks"
)

// Check returns OK for limits.
func Check(l api.Limits) api.Errno {
	return checks.First(
		checks.When(!lengths(l.Low, l.High), api.ErrRange),
		checks.When(l.Low > l.High, api.ErrOrder),
	)
}

// lengths reports whether all of some numbers are in the range of lengths.
func lengths(numbers ...int) bool {
	for _, n := range numbers {
		if n < -api.MaxCoord || n > api.MaxCoord {
			return false
		}
	}
	return true
}

// The functions below calculate first, and check then: of what is not right, the result means nothing, and is not returned.

// Of returns the limits of a nominal value with two deviations.
func Of(nominal, low, high int) (api.Limits, api.Errno) {
	l := api.Limits{Low: nominal + low, High: nominal + high}
	return checks.Result(l,
		checks.When(!lengths(nominal, low, high), api.ErrRange),
		checks.Each(Check, l),
	)
}

// Contains reports whether a value is within limits.
func Contains(l api.Limits, v int) (bool, api.Errno) {
	return checks.Result(l.Low <= v && v <= l.High, checks.Each(Check, l))
}

// Inside reports whether limits are within others.
func Inside(a, b api.Limits) (bool, api.Errno) {
	return checks.Result(b.Low <= a.Low && a.High <= b.High, checks.Each(Check, a, b))
}

// Meet returns the values that are within both limits.
func Meet(a, b api.Limits) (api.Limits, api.Errno) {
	both := api.Limits{Low: max(a.Low, b.Low), High: min(a.High, b.High)}
	return checks.Result(both,
		checks.Each(Check, a, b),
		checks.When(both.Low > both.High, api.ErrConflict),
	)
}

// Add returns the limits of a sum.
func Add(a, b api.Limits) (api.Limits, api.Errno) {
	l := sum(a, b)
	return checks.Result(l, checks.Each(Check, a, b, l))
}

// Neg returns the limits of the opposite.
func Neg(l api.Limits) (api.Limits, api.Errno) {
	return checks.Result(opposite(l), checks.Each(Check, l))
}

func sum(a, b api.Limits) api.Limits {
	return api.Limits{Low: a.Low + b.Low, High: a.High + b.High}
}

func opposite(l api.Limits) api.Limits { return api.Limits{Low: -l.High, High: -l.Low} }
