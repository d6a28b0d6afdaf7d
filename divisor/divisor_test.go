package divisor_test

import (
	"math"
	"math/big"
	"math/rand"
	"testing"

	"metrolab/divisor"
)

func TestOf(t *testing.T) {
	for _, x := range []struct {
		numbers []int
		want    int
	}{{nil, 0}, {[]int{0}, 0}, {[]int{0, 0, 0}, 0}, {[]int{7}, 7}, {[]int{-7}, 7}, {[]int{0, -6}, 6}, {[]int{-6, 0, 4}, 2}, {[]int{6, 10, 15}, 1}, {[]int{12, -18, 30}, 6}, {[]int{1, math.MaxInt}, 1}, {[]int{-math.MaxInt, math.MaxInt}, math.MaxInt}} {
		if got := divisor.Of(x.numbers...); got != x.want {
			t.Errorf("Of(%v): %d instead of %d", x.numbers, got, x.want)
		}
	}
}

func TestRandom(t *testing.T) {
	r := rand.New(rand.NewSource(5))
	for range 1000 {
		var numbers []int
		common, want := r.Intn(1000), new(big.Int)
		for range r.Intn(4) {
			n := common * (r.Intn(2000) - 1000)
			numbers = append(numbers, n)
			want.GCD(nil, nil, want, new(big.Int).Abs(big.NewInt(int64(n))))
		}
		if got := divisor.Of(numbers...); int64(got) != want.Int64() {
			t.Errorf("Of(%v): %d instead of %s", numbers, got, want)
		}
	}
}
