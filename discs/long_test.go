package discs_test

import (
	"math/big"
	"math/rand"
	"slices"
	"testing"

	"metrolab/api"
	"metrolab/discs"
)

// digit returns a random integer of n digits.
func digit(r *rand.Rand, n int) *big.Int {
	least := new(big.Int).Exp(big.NewInt(10), big.NewInt(int64(n-1)), nil)
	return new(big.Int).Add(least, new(big.Int).Rand(r, new(big.Int).Mul(big.NewInt(9), least)))
}

// long returns a number whose numerator or denominator, or both, have n digits.
func long(r *rand.Rand, n int) number {
	num, den := digit(r, n), digit(r, n)
	switch r.Intn(6) {
	case 0:
		den.SetInt64(1 + r.Int63n(9))
	case 1:
		num.SetInt64(r.Int63n(10))
	}
	if r.Intn(2) == 0 {
		num.Neg(num)
	}
	return new(big.Rat).SetFrac(num, den)
}

func longDiscs(r *rand.Rand, n, size int) []api.Disc {
	var l []api.Disc
	for range size {
		square := long(r, n)
		l = append(l, discOf(long(r, n), long(r, n), square.Abs(square)))
	}
	return l
}

// through returns a third disc whose circle goes nearly, within 20 digits, through a common place of two circles.
func through(r *rand.Rand, a, b api.Disc, side int) (api.Disc, bool) {
	p, ok := place([]api.Disc{a, b}, discs.Witness{I: 0, J: 1, Side: side})
	if !ok {
		return api.Disc{}, false
	}
	x, y := long(r, 20), long(r, 20)
	u, v := p.x.less(x).squared(), p.y.less(y).squared()
	float := func(v number) *big.Float { return new(big.Float).SetPrec(800).SetRat(v) }
	square := new(big.Float).Sqrt(float(p.x.c))
	square.Add(square.Mul(square, float(plus(u.b, v.b))), float(plus(u.a, v.a)))
	part := whole(1)
	for scaled := new(big.Float); ; part = times(part, whole(10)) {
		scaled.Mul(square, float(times(part, whole(10))))
		if scaled.Cmp(new(big.Float).SetInt(new(big.Int).Exp(big.NewInt(10), big.NewInt(19), nil))) > 0 {
			break
		}
	}
	n, _ := new(big.Float).Mul(square, float(part)).Int(nil)
	n.Add(n, big.NewInt(r.Int63n(2)))
	return discOf(x, y, over(new(big.Rat).SetInt(n), part)), true
}

// short reports whether no number has more than 20 digits.
func short(l ...api.Disc) bool {
	return !slices.ContainsFunc(l, func(d api.Disc) bool {
		return slices.ContainsFunc([]api.Rat{d.Center.X, d.Center.Y, d.Square}, func(a api.Rat) bool {
			v := value(a)
			return len(new(big.Int).Abs(v.Num()).String()) > 20 || len(v.Denom().String()) > 20
		})
	})
}

// TestTwentyDigits: numbers with up to 20 digits are never too large, also where all of them are needed.
func TestTwentyDigits(t *testing.T) {
	r := rand.New(rand.NewSource(23))
	count := map[bool]int{}
	for n := 0; n < 120; {
		l := longDiscs(r, 20, 2)
		d, ok := through(r, l[0], l[1], 2*r.Intn(2)-1)
		if !ok || !short(append(l, d)...) {
			continue
		}
		n++
		l = append(l, d)
		for _, w := range witnesses(3) {
			want := proves(l, w)
			proof, e := discs.Verify(l, w)
			expect(t, "Verify", []any{l, w}, []any{proof, e}, []any{want, api.OK})
			if w.J == 1 && w.Side != 0 {
				count[proof]++
			}
		}
		compare(t, l)
	}
	if count[true] < 30 || count[false] < 30 {
		t.Errorf("%v", count)
	}
	for range 30 {
		compare(t, longDiscs(r, 20, 1+r.Intn(4)))
	}
}

// compare compares all functions with the model.
func compare(t *testing.T, l []api.Disc) {
	t.Helper()
	wanted, first := common(l)
	ok, w, e := discs.Common(l)
	bad, f := discs.Contradiction(l)
	spare, g := discs.Redundant(l)
	expect(t, "Common, Contradiction, Redundant", l, []any{ok, w, e, bad, f, spare, g}, []any{wanted, first, api.OK, contradiction(l), api.OK, redundant(l), api.OK})
	for _, a := range l {
		for _, b := range l {
			n, e := discs.Relate(a, b)
			in, f := discs.Contains(a, b.Center)
			expect(t, "Relate, Contains", []any{a, b}, []any{n, e, in, f}, []any{relate(a, b), api.OK, spotOf(b.Center).in(a), api.OK})
		}
	}
}

// TestMostDigits has the longest denominators without common divisors, and the longest numerators, at once.
func TestMostDigits(t *testing.T) {
	most := new(big.Int).Exp(big.NewInt(10), big.NewInt(20), nil)
	var dens []*big.Int
	for n := int64(1); len(dens) < 9; n += 2 {
		den := new(big.Int).Sub(most, big.NewInt(n))
		if den.ProbablyPrime(20) {
			dens = append(dens, den)
		}
	}
	top := new(big.Int).Sub(most, big.NewInt(1))
	near := func(i int, sign int64) number {
		return new(big.Rat).SetFrac(new(big.Int).Mul(top, big.NewInt(sign)), dens[i])
	}
	far := func(sign int64) number { return new(big.Rat).SetInt(new(big.Int).Mul(top, big.NewInt(sign))) }
	small := func(i int) number { return new(big.Rat).SetFrac(big.NewInt(1), dens[i]) }
	for _, l := range [][]api.Disc{
		{discOf(near(0, 1), near(1, 1), near(2, 1)), discOf(near(3, -1), near(4, 1), near(5, 1)), discOf(near(6, -1), near(7, -1), near(8, 1))},
		{discOf(near(0, 1), near(1, 1), far(1)), discOf(near(3, -1), near(4, 1), far(1)), discOf(near(6, -1), near(7, -1), far(1))},
		{discOf(near(0, 1), near(1, 1), far(1)), discOf(far(1), near(4, 1), near(5, 1)), discOf(near(6, -1), far(-1), near(8, 1))},
		{discOf(small(0), small(1), near(2, 1)), discOf(small(3), far(-1), small(5)), discOf(far(-1), near(7, -1), near(8, 1))},
		{discOf(far(1), far(-1), near(2, 1)), discOf(near(3, -1), near(4, -1), near(5, 1)), discOf(small(6), small(7), near(8, 1))},
	} {
		if !short(l...) {
			t.Errorf("%v is too long", l)
		}
		for _, w := range witnesses(3) {
			proof, e := discs.Verify(l, w)
			expect(t, "Verify", []any{l, w}, []any{proof, e}, []any{proves(l, w), api.OK})
		}
		compare(t, l)
	}
}

// TestLonger: with more digits, a result is right or ErrLarge.
func TestLonger(t *testing.T) {
	r := rand.New(rand.NewSource(24))
	for _, n := range []int{21, 30, 60, 150, 400, 1024} {
		for range max(1, 600/n) {
			rightOrLarge(t, longDiscs(r, n, 3))
		}
	}
	for _, n := range []int{30, 200, 300, 600, 1024} { // these have a common place
		rightOrLarge(t, []api.Disc{disc("0", "0", "1"), disc("1/"+digits("7", n), "0", "1"), disc("0", "-1/"+digits("7", n), "2")})
	}
}

func rightOrLarge(t *testing.T, l []api.Disc) {
	t.Helper()
	check := func(what string, e api.Errno, got, want, none []any) {
		t.Helper()
		switch e {
		case api.OK:
			expect(t, what, l, got, want)
		case api.ErrLarge:
			expect(t, what, l, got, none)
		default:
			t.Errorf("%s(%v): error %d", what, l, e)
		}
	}
	for _, w := range witnesses(3) {
		proof, e := discs.Verify(l, w)
		check("Verify", e, []any{proof}, []any{proves(l, w)}, []any{false})
	}
	wanted, first := common(l)
	ok, w, e := discs.Common(l)
	check("Common", e, []any{ok, w}, []any{wanted, first}, []any{false, discs.Witness{}})
	bad, e := discs.Contradiction(l)
	check("Contradiction", e, []any{bad}, []any{contradiction(l)}, []any{[]int{}})
	spare, e := discs.Redundant(l)
	check("Redundant", e, []any{spare}, []any{redundant(l)}, []any{[]int{}})
	relation, e := discs.Relate(l[0], l[1])
	check("Relate", e, []any{relation}, []any{relate(l[0], l[1])}, []any{0})
	in, e := discs.Contains(l[0], l[1].Center)
	check("Contains", e, []any{in}, []any{spotOf(l[1].Center).in(l[0])}, []any{false})
}
