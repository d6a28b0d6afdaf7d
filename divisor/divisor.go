// Package divisor finds common divisors of ints.
package divisor

// Of returns the greatest common divisor of some numbers, and 0 if all of them are 0.
// The numbers must be greater than the least int, which has no opposite.
func Of(numbers ...int) int {
	divisor := 0
	for _, n := range numbers {
		for n != 0 {
			divisor, n = n, divisor%n
		}
	}
	return max(divisor, -divisor)
}
