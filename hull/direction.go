package hull

import (
	"iter"

	"metrolab/api"
	"metrolab/pairs"
	"metrolab/vector"
)

// Separated returns the first direction that separates a from b, if one does, and the greatest dot product with it in a.
func Separated(a, b []api.Point) (bool, api.Point, int, api.Errno) {
	for _, l := range [][]api.Point{a, b} {
		if e := vector.Check(l); e != api.OK {
			return false, api.Point{}, 0, e
		}
	}
	if len(a) == 0 || len(b) == 0 {
		return false, api.Point{}, 0, api.ErrEmpty
	}
	for d := range directions(a, b) {
		most, least := greatest(a, d), -greatest(b, minus(api.Point{}, d))
		if most < least {
			return true, d, most, api.OK
		}
	}
	return false, api.Point{}, 0, api.OK
}

// directions yields directions among which one separates a from b if any does.
func directions(a, b []api.Point) iter.Seq[api.Point] {
	return func(yield func(api.Point) bool) {
		for _, p := range a {
			for _, q := range b {
				if !yield(minus(q, p)) {
					return
				}
			}
		}
		for _, l := range [][]api.Point{a, b} {
			for i, j := range pairs.Indices(len(l)) {
				if !yield(left(minus(l[j], l[i]))) || !yield(left(minus(l[i], l[j]))) {
					return
				}
			}
		}
	}
}

// extreme returns the indices of all points whose dot product with a direction is the greatest one.
func extreme(l []api.Point, d api.Point) []int {
	most := greatest(l, d)
	var found []int
	for i, p := range l {
		if dot(d, p) == most {
			found = append(found, i)
		}
	}
	return found
}

// greatest returns the greatest dot product of points with a direction.
func greatest(l []api.Point, d api.Point) int {
	most := dot(d, l[0])
	for _, p := range l {
		most = max(most, dot(d, p))
	}
	return most
}

// dot is vector.Dot also for the difference of two points, which may be beyond MaxCoord.
func dot(d, p api.Point) int { return d.X*p.X + d.Y*p.Y }

func minus(a, b api.Point) api.Point { return api.Point{X: a.X - b.X, Y: a.Y - b.Y} }

// left returns a direction turned by a quarter to the left.
func left(d api.Point) api.Point { return api.Point{X: -d.Y, Y: d.X} }
