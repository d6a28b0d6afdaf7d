package enclose

import (
	"metrolab/api"
	"metrolab/reckon"
	"metrolab/whole"
)

// coordinates are those of a point in the plane or in space, or of the way between two of them.
type coordinates interface{ [2]int | [3]int }

// way returns the way from a to b.
func way[V coordinates](a, b V) V {
	for i := range len(a) {
		b[i] -= a[i]
	}
	return b
}

func dot[V coordinates](a, b V) int {
	sum := 0
	for i := range len(a) {
		sum += a[i] * b[i]
	}
	return sum
}

// wholes returns coordinates as integers.
func wholes[V coordinates](v V) []api.Int {
	var l []api.Int
	for i := range len(v) {
		l = append(l, whole.Of(v[i]))
	}
	return l
}

// ball is the circle, or the sphere, around independent points.
type ball[V coordinates] struct {
	from    V         // the first of these points
	across  []api.Int // the way from there to the opposite place of the ball, times scale
	weights []api.Int // those of the other points in the center, times twice the scale
	scale   api.Int   // positive
}

// around returns the ball around points, and whether they are independent.
func around[V coordinates](k *reckon.Keeper, l []V) (ball[V], bool) {
	b := ball[V]{from: l[0]}
	var ways []V
	for _, p := range l[1:] {
		ways = append(ways, way(b.from, p))
	}
	var ok bool
	b.weights, b.scale, ok = solve(k, ways)
	if !ok {
		return ball[V]{}, false
	}
	for i := range len(b.from) {
		sum := api.Int("0")
		for j, w := range b.weights {
			sum = k.Plus(sum, k.Times(w, whole.Of(ways[j][i])))
		}
		b.across = append(b.across, sum)
	}
	return b, true
}

// solve returns the weights, times a scale, with which ways add up to one whose product with each of them is the squared
// length of that one; and whether the ways are independent. By Thales, it leads from one place to the opposite one of the
// ball on which the ways begin and end.
func solve[V coordinates](k *reckon.Keeper, ways []V) ([]api.Int, api.Int, bool) {
	rows := equations(ways)
	scale := api.Int("1")
	for i, own := range rows {
		// The numbers of the rows are minors of the first ones. This one, a squared volume, is 0 only for ways that are not independent.
		pivot := own[i]
		if pivot == "0" {
			return nil, "", false
		}
		for j, row := range rows {
			if j != i {
				k.Combine(row, own, i, pivot, scale)
			}
		}
		scale = pivot
	}
	var weights []api.Int
	for _, row := range rows {
		weights = append(weights, row[len(rows)])
	}
	return weights, scale, true
}

// equations returns for each way its products with all ways, and behind these its squared length.
func equations[V coordinates](ways []V) [][]api.Int {
	var rows [][]api.Int
	for _, v := range ways {
		var row []api.Int
		for _, w := range ways {
			row = append(row, whole.Of(dot(v, w)))
		}
		rows = append(rows, append(row, whole.Of(dot(v, v))))
	}
	return rows
}

// twice returns twice the scale.
func (b ball[V]) twice(k *reckon.Keeper) api.Int { return k.Plus(b.scale, b.scale) }

// central reports whether the center is in the convex hull of the points.
func (b ball[V]) central(k *reckon.Keeper) bool {
	rest := b.twice(k)
	for _, w := range b.weights {
		if k.Sign(w) < 0 {
			return false
		}
		rest = k.Minus(rest, w)
	}
	return k.Sign(rest) >= 0
}

// excess returns the squared distance of a point from the center, less the square, times the scale.
func (b ball[V]) excess(k *reckon.Keeper, p V) api.Int {
	v := way(b.from, p)
	return k.Minus(k.Times(whole.Of(dot(v, v)), b.scale), k.Products(wholes(v), b.across))
}

// covers reports whether all points are in the ball.
func (b ball[V]) covers(k *reckon.Keeper, l []V) bool {
	for _, p := range l {
		if k.Sign(b.excess(k, p)) > 0 {
			return false
		}
	}
	return true
}

// center returns the coordinates of the center; in the plane there is no third one.
func (b ball[V]) center(k *reckon.Keeper) [3]api.Rat {
	var center [3]api.Rat
	twice := b.twice(k)
	for i, n := range b.across {
		center[i] = k.Quotient(k.Plus(k.Times(twice, whole.Of(b.from[i])), n), twice)
	}
	return center
}

func (b ball[V]) square(k *reckon.Keeper) api.Rat {
	twice := b.twice(k)
	return k.Quotient(k.Products(b.across, b.across), k.Times(twice, twice))
}
