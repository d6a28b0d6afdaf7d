package freedom

import (
	"slices"

	"metrolab/api"
)

// freedoms is how many numbers a small displacement has: three shifts and three turns.
const freedoms = 2 * api.Axes

// form has the coefficients of the shifts, then those of the turns.
type form [freedoms]int

// forms returns the forms of a feature that is right.
func forms(f api.Feature) []form {
	kinds := [api.Kinds]func(at api.Spot, axis int) []form{
		api.KindPlane: across,
		api.KindHole:  along,
		api.KindPin:   along,
		api.KindSlot:  across,
		api.KindBall:  around,
	}
	return kinds[f.Kind](f.At, f.Axis)
}

// across returns the forms of what is square to an axis.
func across(at api.Spot, axis int) []form {
	return slices.Concat(shifts(at, axis), turns(others(axis)...))
}

// along returns the forms of what goes along an axis.
func along(at api.Spot, axis int) []form {
	return slices.Concat(shifts(at, others(axis)...), turns(others(axis)...))
}

// around returns the forms of what is around a place, whatever the axis is.
func around(at api.Spot, _ int) []form {
	return shifts(at, api.AxisX, api.AxisY, api.AxisZ)
}

// others returns the two other axes, in ascending order.
func others(axis int) []int {
	l := []int{api.AxisX, api.AxisY, api.AxisZ}
	return slices.Delete(l, axis, axis+1)
}

// shifts returns how the coordinates along some axes move at a place.
func shifts(at api.Spot, axes ...int) []form {
	coordinates := [api.Axes]int{at.X, at.Y, at.Z}
	var l []form
	for _, axis := range axes {
		next, last := (axis+1)%api.Axes, (axis+2)%api.Axes
		var x form
		x[axis] = 1
		x[api.Axes+next] = coordinates[last]
		x[api.Axes+last] = -coordinates[next]
		l = append(l, x)
	}
	return l
}

// turns returns the turns around some axes.
func turns(axes ...int) []form {
	var l []form
	for _, axis := range axes {
		var x form
		x[api.Axes+axis] = 1
		l = append(l, x)
	}
	return l
}
