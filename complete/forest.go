package complete

import (
	"iter"
	"maps"
	"slices"

	"metrolab/api"
)

// along yields the dimensions along an axis, with their indices.
func along(l []api.Dimension, axis int) iter.Seq2[int, api.Dimension] {
	return func(yield func(int, api.Dimension) bool) {
		for i, d := range l {
			if d.Axis == axis && !yield(i, d) {
				return
			}
		}
	}
}

// names returns the names that occur in the dimensions along an axis, in ascending order.
func names(l []api.Dimension, axis int) []string {
	set := map[string]bool{}
	for _, d := range along(l, axis) {
		set[d.From], set[d.To] = true, true
	}
	return slices.Sorted(maps.Keys(set))
}

// forest leads from each name of a group, other than the first one, to a lesser one.
type forest map[string]string

// first returns the first name of the group of a name.
func (f forest) first(name string) string {
	for {
		lesser, ok := f[name]
		if !ok {
			return name
		}
		name = lesser
	}
}

// join returns the groups of dimensions along an axis, and the indices of those that are redundant.
func join(l []api.Dimension, axis int) (forest, []int) {
	joined := forest{}
	var redundant []int
	for i, d := range along(l, axis) {
		a, b := joined.first(d.From), joined.first(d.To)
		if a == b {
			redundant = append(redundant, i)
		} else {
			joined[max(a, b)] = min(a, b)
		}
	}
	return joined, redundant
}
