// Package checks finds the first error of several checks, which are functions that return an error.
package checks

import "metrolab/api"

// First returns the first error of several checks. Those behind it are not called.
func First(checks ...func() api.Errno) api.Errno {
	for _, check := range checks {
		if e := check(); e != api.OK {
			return e
		}
	}
	return api.OK
}

// Result returns a value, or the first error of several checks alone.
func Result[T any](value T, checks ...func() api.Errno) (T, api.Errno) {
	if e := First(checks...); e != api.OK {
		return *new(T), e
	}
	return value, api.OK
}

// Each returns a check of several values, from left to right.
func Each[T any](check func(T) api.Errno, values ...T) func() api.Errno {
	return func() api.Errno {
		for _, x := range values {
			if e := check(x); e != api.OK {
				return e
			}
		}
		return api.OK
	}
}

// When returns a check with an error if something is wrong.
func When(wrong bool, e api.Errno) func() api.Errno {
	return func() api.Errno {
		if wrong {
			return e
		}
		return api.OK
	}
}
