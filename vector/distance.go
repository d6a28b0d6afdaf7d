package vector

import (
	"metrolab/api"
	"metrolab/ratio"
	"metrolab/reckon"
)

// ToLine returns the squared distance of p from the line through a and b.
func ToLine(p, a, b api.Point) (api.Rat, api.Errno) {
	product, e := Cross(p, a, b)
	if e != api.OK {
		return "", e
	}
	v := minus(b, a)
	return distance(product, v.X, v.Y)
}

// ToSegment returns the squared distance of p from the segment between a and b.
func ToSegment(p, a, b api.Point) (api.Rat, api.Errno) {
	if e := Check([]api.Point{p, a, b}); e != api.OK {
		return "", e
	}
	switch {
	case dot(minus(b, a), minus(p, a)) <= 0:
		return ratio.Whole(square(a, p)), api.OK
	case dot(minus(a, b), minus(p, b)) <= 0:
		return ratio.Whole(square(b, p)), api.OK
	}
	return ToLine(p, a, b)
}

// ToPlane returns the squared distance of p from the plane through a, b and c.
func ToPlane(p, a, b, c api.Spot) (api.Rat, api.Errno) {
	product, e := Volume(a, b, c, p)
	if e != api.OK {
		return "", e
	}
	normal := crossSpace(between(a, b), between(a, c))
	return distance(product, normal[:]...)
}

// distance returns the square of a product divided by the squared length of a vector, which must not be 0.
func distance(product int, vector ...int) (api.Rat, api.Errno) {
	return reckon.Result(func(k *reckon.Keeper) api.Rat {
		return k.Of(ratio.Div, squares(k, product), squares(k, vector...))
	})
}

// squares returns a sum of squares, which may be too large for an int.
func squares(k *reckon.Keeper, numbers ...int) api.Rat {
	var l []api.Rat
	for _, n := range numbers {
		l = append(l, ratio.Whole(n))
	}
	return k.Dot(l, l)
}
