package vector

import "metrolab/api"

// SquareSpace returns the squared distance of two points in space.
func SquareSpace(a, b api.Spot) (int, api.Errno) {
	return result(CheckSpots([]api.Spot{a, b}), func() int {
		v := between(a, b)
		return dotSpace(v, v)
	})
}

// Normal returns the vector product of b - a and c - a.
func Normal(a, b, c api.Spot) ([3]int, api.Errno) {
	return result(CheckSpots([]api.Spot{a, b, c}), func() [3]int { return crossSpace(between(a, b), between(a, c)) })
}

// Volume returns the product of the normal of a, b and c with d - a.
func Volume(a, b, c, d api.Spot) (int, api.Errno) {
	return result(CheckSpots([]api.Spot{a, b, c, d}), func() int {
		return dotSpace(crossSpace(between(a, b), between(a, c)), between(a, d))
	})
}

// Coplanar reports whether points are in one plane.
func Coplanar(l []api.Spot) (bool, api.Errno) {
	return result(CheckSpots(l), func() bool {
		var along, normal [3]int // of the first points that have one other than 0
		for _, p := range l {
			v := between(l[0], p)
			if along == [3]int{} {
				along = v
			}
			if normal == [3]int{} {
				normal = crossSpace(along, v)
			}
			if dotSpace(normal, v) != 0 {
				return false
			}
		}
		return true
	})
}

// between returns the vector from a to b.
func between(a, b api.Spot) [3]int { return [3]int{b.X - a.X, b.Y - a.Y, b.Z - a.Z} }

func dotSpace(a, b [3]int) int { return a[0]*b[0] + a[1]*b[1] + a[2]*b[2] }

func crossSpace(a, b [3]int) [3]int {
	return [3]int{a[1]*b[2] - a[2]*b[1], a[2]*b[0] - a[0]*b[2], a[0]*b[1] - a[1]*b[0]}
}
