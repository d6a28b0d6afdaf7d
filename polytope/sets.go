package polytope

import (
	"iter"

	"metrolab/api"
)

// maxSets is how many sets of one size are looked through: all pairs of MaxBounds bounds, and all sets of 13 bounds.
const maxSets = 2048

// sets yields the sets of so many of m indices in lexicographic order. A set is changed when the next one is asked for.
func sets(m, size int) iter.Seq[[]int] {
	return func(yield func([]int) bool) {
		set := make([]int, size)
		fill(set, 0)
		for more := size <= m; more; more = advance(set, m) {
			if !yield(set) {
				return
			}
		}
	}
}

// fill makes the indices of a set follow one another.
func fill(set []int, first int) {
	for i := range set {
		set[i] = first + i
	}
}

// advance makes a set the next one of its size, and reports whether there is one.
func advance(set []int, m int) bool {
	for i := len(set) - 1; i >= 0; i-- {
		if set[i] < m-len(set)+i {
			fill(set[i:], set[i]+1)
			return true
		}
	}
	return false
}

// many reports whether there are more sets than are looked through.
func many(from iter.Seq[[]int]) bool {
	count := 0
	for range from {
		count++
		if count > maxSets {
			return true
		}
	}
	return false
}

// collect returns what is found for each of some sets, until there is as much as wanted.
func collect[T any](from iter.Seq[[]int], wanted int, find func(set []int) (T, bool, api.Errno)) ([]T, api.Errno) {
	if many(from) {
		return nil, api.ErrLimit
	}
	var found []T
	for set := range from {
		x, ok, e := find(set)
		if e != api.OK {
			return nil, e
		}
		if ok {
			found = append(found, x)
		}
		if len(found) == wanted {
			break
		}
	}
	return found, api.OK
}
