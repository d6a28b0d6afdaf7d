// Package pick takes elements out of lists.
package pick

import "iter"

// At returns the elements of a list at some indices.
func At[T any](l []T, indices []int) []T {
	var found []T
	for _, i := range indices {
		found = append(found, l[i])
	}
	return found
}

// Sets yields the sets of some of n indices, from least to most of them: smaller sets first, and those of one size in
// lexicographic order. A set is changed when the next one is asked for.
func Sets(n, least, most int) iter.Seq[[]int] {
	return func(yield func([]int) bool) {
		for size := least; size <= min(most, n); size++ {
			set := make([]int, size)
			fill(set, 0)
			for more := true; more; more = advance(set, n) {
				if !yield(set) {
					return
				}
			}
		}
	}
}

// fill makes the indices of a set follow one another.
func fill(set []int, first int) {
	for i := range set {
		set[i] = first + i
	}
}

// advance makes a set the next one of its size, and reports whether there is one.
func advance(set []int, n int) bool {
	for i := len(set) - 1; i >= 0; i-- {
		if set[i] < n-len(set)+i {
			fill(set[i:], set[i]+1)
			return true
		}
	}
	return false
}
