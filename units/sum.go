package units

import (
	"metrolab/api"
	"metrolab/ratio"
	"metrolab/reckon"
)

// Sum returns the sum of lengths, in whole micrometres.
func Sum(l []string) (int, api.Errno) {
	if len(l) > api.MaxList {
		return 0, api.ErrMany
	}
	var values []api.Rat
	for _, s := range l {
		x, e := Exact(s)
		if e != api.OK {
			return 0, e
		}
		values = append(values, x)
	}
	// The denominator of the whole sum may be longer than numbers are, but not that of a half: it has less than 7 digits for each value.
	half := len(values) / 2
	a, _ := ratio.Sum(values[:half])
	b, _ := ratio.Sum(values[half:])
	return together(a, b)
}

// together returns the sum of two numbers as an int.
func together(a, b api.Rat) (int, api.Errno) {
	least, _ := ratio.Sub(ratio.Whole(-api.MaxCoord), b)
	most, _ := ratio.Sub(ratio.Whole(api.MaxCoord), b)
	if order(a, least) < 0 || order(a, most) > 0 {
		return 0, api.ErrRange
	}
	_, p, _ := ratio.Parts(a)
	_, q, _ := ratio.Parts(b)
	if p != q { // then their sum is not whole
		return 0, api.ErrState
	}
	var k reckon.Keeper
	return whole(k.Sum(a, b))
}

// order returns -1, 0 or 1 if a is less than, equal to or greater than b. It compares their whole parts, and then the rests,
// turned over: the products of ratio.Compare may be too long, but here no number is longer than the ones before.
func order(a, b api.Rat) int {
	x, y := floor(a), floor(b)
	if x != y || a == b {
		return compare(x, y)
	}
	a, _ = ratio.Sub(a, x)
	b, _ = ratio.Sub(b, y)
	if a == "0" || b == "0" {
		return compare(a, b)
	}
	a, _ = ratio.Div("1", a)
	b, _ = ratio.Div("1", b)
	return order(b, a)
}

func floor(a api.Rat) api.Rat {
	n, _ := ratio.Floor(a)
	return api.Rat(n)
}

func compare(a, b api.Rat) int {
	c, _ := ratio.Compare(a, b)
	return c
}
