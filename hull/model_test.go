package hull_test

import (
	"math/rand"
	"slices"

	"metrolab/api"
)

func p(x, y int) api.Point { return api.Point{X: x, Y: y} }

func minus(a, b api.Point) api.Point { return p(a.X-b.X, a.Y-b.Y) }

func dot(a, b api.Point) int { return a.X*b.X + a.Y*b.Y }

func cross(a, b, c api.Point) int { return (b.X-a.X)*(c.Y-a.Y) - (b.Y-a.Y)*(c.X-a.X) }

// grid is the width and height of the points of small lists. Whatever a direction decides about these, a direction of few does.
const grid = 4

// few returns the directions whose coordinates are at most 2 * grid: those square to a side, those between two such, and others.
func few() []api.Point {
	var l []api.Point
	for x := -2 * grid; x <= 2*grid; x++ {
		for y := -2 * grid; y <= 2*grid; y++ {
			if x != 0 || y != 0 {
				l = append(l, p(x, y))
			}
		}
	}
	return l
}

var directions = few()

func some(holds func(d api.Point) bool) bool { return slices.ContainsFunc(directions, holds) }

// most returns the greatest dot product of points with a direction.
func most(l []api.Point, d api.Point) int {
	most := dot(l[0], d)
	for _, q := range l {
		most = max(most, dot(q, d))
	}
	return most
}

func least(l []api.Point, d api.Point) int { return -most(l, minus(p(0, 0), d)) }

// isVertex reports whether the place of a point is the only extreme one in some direction, and no lesser index has it.
func isVertex(l []api.Point, i int) bool {
	if slices.Index(l, l[i]) < i {
		return false
	}
	others := slices.DeleteFunc(slices.Clone(l), func(q api.Point) bool { return q == l[i] })
	return len(others) == 0 || some(func(d api.Point) bool { return dot(l[i], d) > most(others, d) })
}

// hullOf returns the vertices by the angle at which the least one sees them.
func hullOf(l []api.Point) []int {
	var corners []int
	for i := range l {
		if isVertex(l, i) {
			corners = append(corners, i)
		}
	}
	if len(corners) == 0 {
		return nil
	}
	first := slices.MinFunc(corners, func(i, j int) int {
		if l[i].X != l[j].X {
			return l[i].X - l[j].X
		}
		return l[i].Y - l[j].Y
	})
	slices.SortFunc(corners, func(i, j int) int {
		switch {
		case i == j:
			return 0
		case i == first:
			return -1
		case j == first:
			return 1
		}
		return cross(l[first], l[j], l[i])
	})
	return corners
}

func locate(l []api.Point, q api.Point) int {
	switch {
	case some(func(d api.Point) bool { return dot(q, d) > most(l, d) }):
		return -1
	case some(func(d api.Point) bool { return dot(q, d) == most(l, d) }):
		return 0
	}
	return 1
}

func antipodal(l []api.Point) [][2]int {
	var found [][2]int
	for i := range l {
		for j := i + 1; j < len(l); j++ {
			if isVertex(l, i) && isVertex(l, j) && some(func(d api.Point) bool { return dot(l[i], d) == most(l, d) && dot(l[j], d) == least(l, d) }) {
				found = append(found, [2]int{i, j})
			}
		}
	}
	return found
}

func convex(l []api.Point) bool {
	for i, a := range l {
		for j, c := range l {
			if follower := (i + 1) % len(l); j != i && j != follower && cross(a, l[follower], c) <= 0 {
				return false
			}
		}
	}
	return len(l) > 2
}

// separated tries the directions in the order of the document.
func separated(a, b []api.Point) (bool, api.Point, int) {
	var tried []api.Point
	for i := range a {
		for j := range b {
			tried = append(tried, p(b[j].X-a[i].X, b[j].Y-a[i].Y))
		}
	}
	for _, l := range [][]api.Point{a, b} {
		for i := range l {
			for j := i + 1; j < len(l); j++ {
				x, y := l[j].X-l[i].X, l[j].Y-l[i].Y
				tried = append(tried, p(-y, x), p(y, -x))
			}
		}
	}
	for _, d := range tried {
		if most(a, d) < least(b, d) {
			return true, d, most(a, d)
		}
	}
	return false, p(0, 0), 0
}

// small returns n points of the grid.
func small(r *rand.Rand, n int) []api.Point {
	width, height := 1+r.Intn(grid+1), 1+r.Intn(grid+1)
	var l []api.Point
	for range n {
		l = append(l, p(r.Intn(width)-grid/2, r.Intn(height)-grid/2))
	}
	return l
}

// times multiplies all points.
func times(l []api.Point, factor int) []api.Point {
	var m []api.Point
	for _, q := range l {
		m = append(m, p(q.X*factor, q.Y*factor))
	}
	return m
}

// moved moves all points.
func moved(l []api.Point, by api.Point) []api.Point {
	var m []api.Point
	for _, q := range l {
		m = append(m, p(q.X+by.X, q.Y+by.Y))
	}
	return m
}

// turned turns all points by a quarter to the left.
func turned(l []api.Point) []api.Point {
	var m []api.Point
	for _, q := range l {
		m = append(m, p(-q.Y, q.X))
	}
	return m
}

// wide returns up to 64 points with large coordinates; many of them are vertices, or on sides.
func wide(r *rand.Rand) []api.Point {
	n := 1 + r.Intn(api.MaxPoints)
	var l []api.Point
	for i := range n {
		switch r.Intn(4) {
		case 0:
			l = append(l, p(r.Intn(200001)-100000, 100000-200000*r.Intn(2)))
		case 1:
			l = append(l, p(1500*(i-32), 90*(i-32)*(i-32)))
		case 2:
			l = append(l, p(r.Intn(2001)-1000, r.Intn(2001)-1000))
		case 3:
			l = append(l, p(100*(r.Intn(2001)-1000), 100*(r.Intn(2001)-1000)))
		}
	}
	return l
}
