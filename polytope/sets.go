package polytope

import (
	"iter"

	"metrolab/api"
)

// maxSets is how many sets of one size are looked through: all pairs of MaxBounds bounds, and all sets of 13 bounds.
const maxSets = 2048

// many reports whether there are more sets than are looked through.
func many(from iter.Seq[[]int]) bool {
	count := 0
	for range from {
		count++
		if count > maxSets {
			return true
		}
	}
	return false
}

// collect returns what is found for each of some sets, until there is as much as wanted.
func collect[T any](from iter.Seq[[]int], wanted int, find func(set []int) (T, bool, api.Errno)) ([]T, api.Errno) {
	if many(from) {
		return nil, api.ErrLimit
	}
	var found []T
	for set := range from {
		x, ok, e := find(set)
		if e != api.OK {
			return nil, e
		}
		if ok {
			found = append(found, x)
		}
		if len(found) == wanted {
			break
		}
	}
	return found, api.OK
}
