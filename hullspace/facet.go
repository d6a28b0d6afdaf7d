package hullspace

import (
	"cmp"
	"iter"
	"slices"

	"metrolab/api"
	"metrolab/divisor"
	"metrolab/pairs"
	"metrolab/vector"
)

// Facet has an outer normal, the product that its points have with it, and the indices of all points on it.
type Facet struct {
	Normal [3]int
	Most   int
	Spots  []int
}

// compare orders facets by their normals. Facets of the same points differ in these; others may differ in the rest.
func (f Facet) compare(g Facet) int {
	return cmp.Or(slices.Compare(f.Normal[:], g.Normal[:]), cmp.Compare(f.Most, g.Most), slices.Compare(f.Spots, g.Spots))
}

// facets returns the facets in order.
func facets(l []api.Spot) []Facet {
	var found []Facet
	for normal, most := range outside(l) {
		if !slices.ContainsFunc(found, func(f Facet) bool { return f.Normal == normal }) {
			found = append(found, Facet{Normal: normal, Most: most, Spots: level(l, normal, most)})
		}
	}
	slices.SortFunc(found, Facet.compare)
	return found
}

// shared returns how many facets have both of two points.
func shared(l []Facet, pair [2]int) int {
	count := 0
	for _, f := range l {
		if slices.Contains(f.Spots, pair[0]) && slices.Contains(f.Spots, pair[1]) {
			count++
		}
	}
	return count
}

// outside yields the outer normals of the facets, and the products that their points have with them.
// A facet comes up once for each three of its points that are not collinear.
func outside(l []api.Spot) iter.Seq2[[3]int, int] {
	return func(yield func([3]int, int) bool) {
		for normal, most := range planes(l) {
			if !beyond(l, normal, most) && !yield(normal, most) {
				return
			}
		}
	}
}

// planes yields the planes through three points, each with its normal in both directions, and the product with it.
func planes(l []api.Spot) iter.Seq2[[3]int, int] {
	return func(yield func([3]int, int) bool) {
		for i, j := range pairs.Indices(len(l)) {
			for _, p := range l[j+1:] {
				normal, _ := vector.Normal(l[i], l[j], p)
				if normal == [3]int{} {
					continue
				}
				normal = shortest(normal)
				opposite := [3]int{-normal[0], -normal[1], -normal[2]}
				if !yield(normal, product(normal, p)) || !yield(opposite, product(opposite, p)) {
					return
				}
			}
		}
	}
}

// shortest returns the vector of ints in a direction that has no common divisor.
func shortest(direction [3]int) [3]int {
	common := divisor.Of(direction[:]...)
	return [3]int{direction[0] / common, direction[1] / common, direction[2] / common}
}

// beyond reports whether a point has a greater product with a direction.
func beyond(l []api.Spot, direction [3]int, most int) bool {
	return slices.ContainsFunc(l, func(p api.Spot) bool { return product(direction, p) > most })
}

// level returns the indices of all points whose product with a direction has some value.
func level(l []api.Spot, direction [3]int, value int) []int {
	var found []int
	for i, p := range l {
		if product(direction, p) == value {
			found = append(found, i)
		}
	}
	return found
}

// greatest returns the greatest product of points with a direction.
func greatest(l []api.Spot, direction [3]int) int {
	most := product(direction, l[0])
	for _, p := range l {
		most = max(most, product(direction, p))
	}
	return most
}

func product(v [3]int, p api.Spot) int { return v[0]*p.X + v[1]*p.Y + v[2]*p.Z }
