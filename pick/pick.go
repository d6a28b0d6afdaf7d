// Package pick takes elements out of lists.
package pick

// At returns the elements of a list at some indices.
func At[T any](l []T, indices []int) []T {
	var found []T
	for _, i := range indices {
		found = append(found, l[i])
	}
	return found
}
