package units_test

import (
	"math/big"
	"math/rand"
	"slices"
	"strconv"
	"strings"
	"testing"

	"metrolab/api"
	"metrolab/units"
)

// sum returns the sum of texts by its definition.
func sum(l []string) (int, api.Errno) {
	if len(l) > 256 {
		return 0, api.ErrMany
	}
	total := new(big.Rat)
	for _, s := range l {
		v, e := model(s)
		if e != api.OK {
			return 0, e
		}
		total.Add(total, v)
	}
	switch {
	case new(big.Rat).Abs(total).Cmp(big.NewRat(100000, 1)) > 0:
		return 0, api.ErrRange
	case !total.IsInt():
		return 0, api.ErrState
	}
	return int(total.Num().Int64()), api.OK
}

// compareSums compares Sum with the model, and returns the error.
func compareSums(t *testing.T, l []string) api.Errno {
	t.Helper()
	want, error := sum(l)
	got, e := units.Sum(l)
	if got != want || e != error {
		t.Errorf("Sum of %d texts (%q ..): %d, error %d instead of %d, error %d", len(l), l[:min(8, len(l))], got, e, want, error)
	}
	return error
}

// P13.2

func TestSum(t *testing.T) {
	for _, x := range []struct {
		l []string
		n int
		e api.Errno
	}{
		{nil, 0, api.OK}, {[]string{"1/3 mm", "1/3 mm", "1/3 mm"}, 1000, api.OK}, {[]string{"1/3 mm", "1/3 mm"}, 0, api.ErrState}, {[]string{"12.5 mm", "1/8 in", "-2 cm", "5 thou"}, -4198, api.OK},
		{[]string{"100 mm"}, 100000, api.OK}, {[]string{"60 mm", "4 cm"}, 100000, api.OK}, {[]string{"100 mm", "1 um"}, 0, api.ErrRange}, {[]string{"-5 cm", "-50000.5 um"}, 0, api.ErrRange}, {[]string{"5 cm", "50000.5 um"}, 0, api.ErrRange}, {[]string{"5 cm", "49999.5 um"}, 0, api.ErrState}, {[]string{"-50000.5 um", "-5 cm"}, 0, api.ErrRange}, {[]string{"-100 mm"}, -100000, api.OK}, {[]string{"-100 mm", "-1/2 um", "1/2 um"}, -100000, api.OK}, {[]string{"100 mm", "1/999999 um"}, 0, api.ErrRange}, {[]string{"-1/999999 um", "-10 cm"}, 0, api.ErrRange}, {[]string{"100 mm", "-1/999999 um"}, 0, api.ErrState}, {[]string{"-100 mm", "1/999999 um"}, 0, api.ErrState},
		{[]string{"100 mm", "100 mm", "-100 mm", "-100 mm"}, 0, api.OK}, {[]string{"1/2 um", "1/3 um", "1/6 um"}, 1, api.OK}, {[]string{"-1/2 um", "-1/3 um", "-1/6 um"}, -1, api.OK},
		{[]string{"100 mm", "1 um", "5"}, 0, api.ErrUnit}, {[]string{"1/2 um", "4 in", "x"}, 0, api.ErrRange}, {[]string{"1 um", "1/0", "x"}, 0, api.ErrZero}, {[]string{"1234567 um", strings.Repeat("1", 41)}, 0, api.ErrLarge}, {[]string{strings.Repeat("1", 41), "1234567 um"}, 0, api.ErrLong}, {[]string{""}, 0, api.ErrSyntax},
		{slices.Repeat([]string{"1 um"}, 256), 256, api.OK}, {slices.Repeat([]string{"1 um"}, 257), 0, api.ErrMany}, {slices.Repeat([]string{"x"}, 257), 0, api.ErrMany}, {slices.Repeat([]string{"10 cm"}, 256), 0, api.ErrRange}, {slices.Repeat([]string{"10 cm", "-10 cm"}, 128), 0, api.OK},
	} {
		kept := slices.Clone(x.l)
		n, e := units.Sum(x.l)
		expect(t, "Sum "+strings.Join(x.l, ", "), n, e, x.n, x.e)
		compareSums(t, x.l)
		if !slices.Equal(kept, x.l) {
			t.Errorf("Sum changed %v", kept)
		}
	}
}

func TestRandomSums(t *testing.T) {
	r := rand.New(rand.NewSource(14))
	found := map[api.Errno]int{}
	for range 5000 {
		var l []string
		for range r.Intn(8) {
			n := r.Intn(9) - 4
			l = append(l, strconv.Itoa(n)+"/"+strconv.Itoa(1+r.Intn(4))+" "+words[r.Intn(len(words))])
		}
		found[compareSums(t, l)]++
	}
	for _, e := range []api.Errno{api.OK, api.ErrState, api.ErrRange} {
		if found[e] < 100 {
			t.Errorf("only %d sums with error %d", found[e], e)
		}
	}
}

// primes returns some prime numbers, from the greatest one of 6 digits on downwards.
func primes(count int) []int {
	var found []int
	for n := 999999; len(found) < count; n -= 2 {
		if big.NewInt(int64(n)).ProbablyPrime(0) {
			found = append(found, n)
		}
	}
	return found
}

// Denominators that have no common divisors make a sum whose denominator is longer than 1024 digits.
func TestLongSums(t *testing.T) {
	r := rand.New(rand.NewSource(15))
	p := primes(256)
	fractions := func(count, over int, unit string) []string {
		var l []string
		for i := range count {
			l = append(l, strconv.Itoa(over)+"/"+strconv.Itoa(p[i])+" "+unit)
		}
		return l
	}
	last := []string{"-99999 um", "-99999 um", "99999.5 um", "99999 um"}
	for _, x := range []struct {
		l []string
		e api.Errno
	}{
		{fractions(256, 1, "um"), api.ErrState}, {fractions(256, 999999, "um"), api.ErrState}, {fractions(256, -999999, "mm"), api.ErrRange}, {fractions(256, 1, "thou"), api.ErrState}, {fractions(256, 999999, "thou"), api.ErrState},
		{append([]string{"100 mm"}, fractions(255, 1, "um")...), api.ErrRange}, {append([]string{"-100 mm"}, fractions(255, -1, "um")...), api.ErrRange}, {append([]string{"100 mm"}, fractions(255, -1, "um")...), api.ErrState}, {append(fractions(255, 1, "thou"), "-100 mm"), api.ErrState},
		{append(fractions(252, 1, "um"), last...), api.ErrState}, {append(fractions(128, 1, "um"), fractions(128, -1, "um")...), api.OK}, {append(fractions(128, 1, "thou"), fractions(128, -1, "thou")...), api.OK},
	} {
		if e := compareSums(t, x.l); e != x.e {
			t.Errorf("the model has error %d for %q .., not %d", e, x.l[0], x.e)
		}
		r.Shuffle(len(x.l), func(i, j int) { x.l[i], x.l[j] = x.l[j], x.l[i] })
		compareSums(t, x.l)
	}
	for range 20 {
		var l []string
		for _, n := range p[:200] {
			l = append(l, strconv.Itoa(n-r.Intn(2000))+"/"+strconv.Itoa(n)+" um")
		}
		compareSums(t, append(l, "99800 um"))
		compareSums(t, append(l, "99801 um"))
		compareSums(t, append(l, "-10 cm", "-199 um"))
	}
}

// Fractions can add up to an integer and one part of the product of their denominators: only their last digits tell on which
// side of a limit they are.
func TestSumsNearLimits(t *testing.T) {
	for _, count := range []int{1, 2, 10, 100, 250} {
		p := primes(count)
		product := big.NewInt(1)
		for _, n := range p {
			product.Mul(product, big.NewInt(int64(n)))
		}
		for _, sign := range []int64{1, -1} {
			var l []string
			total := new(big.Rat)
			for _, n := range p {
				prime := big.NewInt(int64(n))
				over := new(big.Int).Quo(product, prime)
				over.ModInverse(over, prime)
				over.Mul(over, big.NewInt(sign))
				l = append(l, over.String()+"/"+prime.String()+" um")
				total.Add(total, new(big.Rat).SetFrac(over, prime))
			}
			part := new(big.Rat).SetFrac(big.NewInt(sign), product)
			whole := int(new(big.Rat).Sub(total, part).Num().Int64())
			for _, limit := range []int{api.MaxCoord, -api.MaxCoord} {
				more := limit - whole
				first := min(max(more, -api.MaxCoord), api.MaxCoord)
				error := api.ErrState
				if (sign > 0) == (limit > 0) {
					error = api.ErrRange
				}
				texts := slices.Concat(l, []string{strconv.Itoa(first) + " um", strconv.Itoa(more-first) + " um"})
				if e := compareSums(t, texts); e != error {
					t.Errorf("the model has error %d for %d fractions, not %d", e, count, error)
				}
			}
		}
	}
}
