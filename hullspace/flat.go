package hullspace

import (
	"slices"

	"metrolab/api"
	"metrolab/hull"
	"metrolab/pick"
	"metrolab/vector"
)

// space is the dimension of points that are not in one plane.
const space = 3

func dimension(l []api.Spot) int { return len(base(l)) - 1 }

// base returns the points that increase the dimension of those before them.
func base(l []api.Spot) []api.Spot {
	var found []api.Spot
	for _, p := range l {
		if !within(found, p) {
			found = append(found, p)
		}
	}
	return found
}

// within reports whether a point is in the least point, line, plane or space with all points of a base.
func within(base []api.Spot, p api.Spot) bool {
	switch len(base) {
	case 0:
		return false
	case 1:
		return p == base[0]
	case 2:
		normal, _ := vector.Normal(base[0], base[1], p)
		return normal == [3]int{}
	case 3:
		volume, _ := vector.Volume(base[0], base[1], base[2], p)
		return volume == 0
	}
	return true
}

// flats returns the indices of points that are in one plane, for some planes that have all vertices: those of the facets,
// or one with all points.
func flats(l []api.Spot) [][]int {
	var found [][]int
	if dimension(l) < space {
		var all []int
		for i := range l {
			all = append(all, i)
		}
		return append(found, all)
	}
	for _, f := range facets(l) {
		found = append(found, f.Spots)
	}
	return found
}

// corners returns those of some indices, of points in one plane, that belong to vertices.
func corners(l []api.Spot, indices []int) []int {
	found, _ := hull.Hull(flatten(pick.At(l, indices)))
	return pick.At(indices, found)
}

// flatten shows points of one plane along an axis on which different places remain different.
func flatten(l []api.Spot) []api.Point {
	independent := base(l)
	for axis := range api.Axes {
		seen, _ := hull.Hull(along(independent, axis))
		if len(seen) == len(independent) {
			return along(l, axis)
		}
	}
	return nil
}

// along leaves out one coordinate of points.
func along(l []api.Spot, axis int) []api.Point {
	var found []api.Point
	for _, p := range l {
		rest := slices.Delete([]int{p.X, p.Y, p.Z}, axis, axis+1)
		found = append(found, api.Point{X: rest[0], Y: rest[1]})
	}
	return found
}
