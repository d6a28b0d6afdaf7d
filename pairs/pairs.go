// Package pairs yields pairs of the elements of lists.
package pairs

import "iter"

// Around yields each element with its follower; the first one follows the last one.
func Around[T any](l []T) iter.Seq2[T, T] {
	return func(yield func(T, T) bool) {
		for i, x := range l {
			if !yield(x, l[(i+1)%len(l)]) {
				return
			}
		}
	}
}

// Indices yields the pairs of different indices of n elements, the lesser one first, in lexicographic order.
func Indices(n int) iter.Seq2[int, int] {
	return func(yield func(int, int) bool) {
		for i := range n {
			for j := i + 1; j < n; j++ {
				if !yield(i, j) {
					return
				}
			}
		}
	}
}
