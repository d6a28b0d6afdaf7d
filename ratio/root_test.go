package ratio_test

import (
	"math/big"
	"math/rand"
	"slices"
	"testing"

	"metrolab/api"
	"metrolab/ratio"
)

// rough returns a sum with roots so precisely that its sign is right, unless the sum is 0.
func rough(a api.Rat, terms ...api.Rat) *big.Float {
	float := func(a api.Rat) *big.Float { return new(big.Float).SetPrec(6000).SetRat(value(a)) }
	sum := float(a)
	for i := 0; i < len(terms); i += 2 {
		root := new(big.Float).SetPrec(6000).Sqrt(float(terms[i+1]))
		sum.Add(sum, root.Mul(root, float(terms[i])))
	}
	return sum
}

// integral returns the integer that is next to a sum towards 0.
func integral(f *big.Float) api.Rat {
	n, _ := f.Int(nil)
	return api.Rat(n.String())
}

func opposite(a api.Rat) api.Rat { return text(new(big.Rat).Neg(value(a))) }

// short reports whether no numerator and no denominator has more than 40 digits.
func short(l ...api.Rat) bool {
	return !slices.ContainsFunc(l, func(a api.Rat) bool {
		v := value(a)
		return len(v.Num().String()) > 40+(1-v.Sign())/2 || len(v.Denom().String()) > 40
	})
}

// P2.2

func TestSignRoot(t *testing.T) {
	long := api.Rat(digits("9", 1025))
	for _, x := range []struct {
		a, b, c api.Rat
		s       int
		e       api.Errno
	}{
		{"3", "-2", "2", 1, api.OK}, {"1", "-1", "2", -1, api.OK}, {"3/2", "-1", "9/4", 0, api.OK}, {"-3/2", "1", "9/4", 0, api.OK}, {"-1", "5", "0", -1, api.OK}, {"0", "-1", "3", -1, api.OK}, {"0", "1", "3", 1, api.OK},
		{"0", "0", "0", 0, api.OK}, {"0", "5", "0", 0, api.OK}, {"5", "0", "7", 1, api.OK}, {"0", "0", "7", 0, api.OK}, {"1", "1", "1", 1, api.OK}, {"-1", "-1", "2/3", -1, api.OK}, {"-7", "5", "2", 1, api.OK}, {"7/5", "-1", "2", -1, api.OK},
		{"1", "1", "-1", 0, api.ErrRange}, {"0", "0", "-1/2", 0, api.ErrRange}, {"x", "1", "-1", 0, api.ErrForm}, {long, "2/4", "-1", 0, api.ErrLarge}, {"1", "2/4", long, 0, api.ErrForm}, {"1", "1", "-" + long, 0, api.ErrLarge}, {"1", "1", "", 0, api.ErrForm},
	} {
		s, e := ratio.SignRoot(x.a, x.b, x.c)
		expect(t, "SignRoot("+string(x.a+", "+x.b+", "+x.c)+")", s, e, x.s, x.e)
	}
}

func TestSignRoots(t *testing.T) {
	long := api.Rat(digits("9", 1025))
	for _, x := range []struct {
		a, b, c, d, e api.Rat
		s             int
		err           api.Errno
	}{
		{"1", "1", "2", "-1", "6", -1, api.OK}, {"0", "3", "2", "-1", "18", 0, api.OK}, {"0", "-1", "18", "3", "2", 0, api.OK}, {"-3", "1", "2", "1", "3", 1, api.OK}, {"-4", "1", "2", "1", "3", -1, api.OK}, {"1", "0", "2", "-1", "1", 0, api.OK},
		{"5", "-1", "2", "-2", "3", 1, api.OK}, {"4", "-1", "2", "-2", "3", -1, api.OK}, {"0", "0", "0", "0", "0", 0, api.OK}, {"-1", "0", "3", "0", "5", -1, api.OK}, {"1", "5", "0", "7", "0", 1, api.OK}, {"0", "5", "0", "-7", "2", -1, api.OK}, {"0", "5", "3", "-7", "0", 1, api.OK},
		{"1", "1", "2", "1", "3", 1, api.OK}, {"-1", "-1", "2", "-1", "3", -1, api.OK}, {"-5", "1", "4", "1", "9", 0, api.OK}, {"1", "-3", "1/4", "1", "1/4", 0, api.OK}, {"1", "2", "4/9", "-1", "49/9", 0, api.OK}, {"2", "-1", "2", "-1", "1/3", 1, api.OK},
		{"0", "0", "0", "0", "-1", 0, api.ErrRange}, {"0", "0", "-1/3", "0", "2", 0, api.ErrRange}, {"0", "0", "-1", "2/2", "0", 0, api.ErrForm}, {"0", "0", "-1", "0", long, 0, api.ErrLarge}, {"x", "0", "0", "0", long, 0, api.ErrForm}, {"1", long, "2/2", "x", "", 0, api.ErrLarge}, {"1", "1", "2/2", long, "", 0, api.ErrForm},
	} {
		s, e := ratio.SignRoots(x.a, x.b, x.c, x.d, x.e)
		expect(t, "SignRoots("+string(x.a+", "+x.b+", "+x.c+", "+x.d+", "+x.e)+")", s, e, x.s, x.err)
	}
}

// Sums that nearly cancel need all digits. With up to 40 digits in each part, no result is ErrLarge.
func TestSignRootsThatNearlyCancel(t *testing.T) {
	r := rand.New(rand.NewSource(3))
	for range 300 {
		var l [4]api.Rat
		for i := range l {
			num, den := random(r, 1+r.Intn(20)), random(r, 1+r.Intn(20))
			if r.Intn(3) == 0 {
				num, den = random(r, 40), random(r, 40)
			}
			l[i] = text(new(big.Rat).SetFrac(num, den))
			if i%2 == 0 && r.Intn(2) == 0 {
				l[i] = opposite(l[i])
			}
		}
		b, c, d, e := l[0], l[1], l[2], l[3]
		a := opposite(integral(rough("0", b, c)))
		s, err := ratio.SignRoot(a, b, c)
		if short(a) {
			expect(t, "SignRoot", s, err, rough(a, b, c).Sign(), api.OK)
		}
		for range 3 {
			a = opposite(integral(rough("0", b, c, d, e)))
			s, err = ratio.SignRoots(a, b, c, d, e)
			if short(a, e) {
				expect(t, "SignRoots", s, err, rough(a, b, c, d, e).Sign(), api.OK)
			}
			a = text(new(big.Rat).SetFrac(random(r, 40), random(r, 40)))
			s, err = ratio.SignRoots(a, b, c, d, e)
			if short(e) {
				expect(t, "SignRoots", s, err, rough(a, b, c, d, e).Sign(), api.OK)
			}
			// The root of c is taken away by a root that is nearly the same.
			b, d, e = "1", "-1", text(new(big.Rat).Add(value(c), big.NewRat(1, 1+r.Int63n(1000))))
		}
	}
}

// With more digits, a result is right or ErrLarge.
func TestSignRootsOfLongNumbers(t *testing.T) {
	r := rand.New(rand.NewSource(4))
	for _, n := range []int{41, 60, 100, 200, 400, 1024} {
		for range 8 {
			var l [5]api.Rat
			for i := range l {
				l[i] = text(new(big.Rat).SetFrac(random(r, n), random(r, n)))
			}
			a, b, c, d, e := opposite(l[0]), l[1], l[2], l[3], l[4]
			s, err := ratio.SignRoot(a, b, c)
			if wanted := rough(a, b, c).Sign(); (s != wanted || err != api.OK) && (s != 0 || err != api.ErrLarge) {
				t.Errorf("SignRoot with %d digits: %d, error %d instead of %d", n, s, err, wanted)
			}
			s, err = ratio.SignRoots(a, b, c, opposite(d), e)
			if wanted := rough(a, b, c, opposite(d), e).Sign(); (s != wanted || err != api.OK) && (s != 0 || err != api.ErrLarge) {
				t.Errorf("SignRoots with %d digits: %d, error %d instead of %d", n, s, err, wanted)
			}
		}
	}
}

// P2.3

func TestLaws(t *testing.T) {
	ok := func(a api.Rat, e api.Errno) api.Rat {
		t.Helper()
		if e != api.OK || ratio.Check(a) != api.OK {
			t.Fatalf("%s, error %d", a, e)
		}
		return a
	}
	same := func(law string, a, b api.Rat) {
		t.Helper()
		if a != b {
			t.Errorf("%s: %s and %s", law, a, b)
		}
	}
	l := right()
	for i, a := range l {
		for j, b := range l {
			c := l[(i*5+j*3+1)%len(l)]
			same("sums commute", ok(ratio.Add(a, b)), ok(ratio.Add(b, a)))
			same("products commute", ok(ratio.Mul(a, b)), ok(ratio.Mul(b, a)))
			same("sums associate", ok(ratio.Add(ok(ratio.Add(a, b)), c)), ok(ratio.Add(a, ok(ratio.Add(b, c)))))
			same("products associate", ok(ratio.Mul(ok(ratio.Mul(a, b)), c)), ok(ratio.Mul(a, ok(ratio.Mul(b, c)))))
			same("products distribute", ok(ratio.Mul(a, ok(ratio.Add(b, c)))), ok(ratio.Add(ok(ratio.Mul(a, b)), ok(ratio.Mul(a, c)))))
			same("a difference undoes", ok(ratio.Sub(ok(ratio.Add(a, b)), b)), a)
			same("the opposite", ok(ratio.Add(a, ok(ratio.Neg(a)))), "0")
			if b != "0" {
				same("a quotient undoes", ok(ratio.Div(ok(ratio.Mul(a, b)), b)), a)
			}
			if order, e := ratio.Compare(a, b); (order == 0) != (a == b) || e != api.OK {
				t.Errorf("%s and %s: order %d, error %d", a, b, order, e)
			}
		}
		num, den, _ := ratio.Parts(a)
		same("parts", ok(ratio.Make(num, den)), a)
	}
	same("a sum of a list", ok(ratio.Sum(l[:6])), ok(ratio.Sum(slices.Concat(l[3:6], l[:3]))))
}

func TestLawsOfRoots(t *testing.T) {
	r := rand.New(rand.NewSource(5))
	number := func(n int64) api.Rat { return text(big.NewRat(r.Int63n(2*n+1)-n, 1+r.Int63n(n))) }
	square := func(a api.Rat) api.Rat { return text(new(big.Rat).Mul(value(a), value(a))) }
	for range 3000 {
		n := []int64{1, 2, 5, 1000, 1000000000}[r.Intn(5)]
		a, b, c, d, e, f := number(n), number(n), square(number(n)), number(n), square(number(n)), number(n)
		// Rational roots: the sign is that of the number.
		exact := func(a, b, c, d, e api.Rat) int {
			root := func(a api.Rat) *big.Rat {
				v := value(a)
				return new(big.Rat).SetFrac(new(big.Int).Sqrt(v.Num()), new(big.Int).Sqrt(v.Denom()))
			}
			x, y := new(big.Rat).Mul(value(b), root(c)), new(big.Rat).Mul(value(d), root(e))
			return x.Add(x, y).Add(x, value(a)).Sign()
		}
		s, err := ratio.SignRoots(a, b, c, d, e)
		expect(t, "rational roots", s, err, exact(a, b, c, d, e), api.OK)
		s, err = ratio.SignRoot(a, b, c)
		expect(t, "a rational root", s, err, exact(a, b, c, "0", "0"), api.OK)

		// Any roots: the sign turns round with all signs, and does not depend on the order of the roots.
		c, e = text(new(big.Rat).Abs(value(f))), text(new(big.Rat).Abs(value(number(n))))
		s, err = ratio.SignRoots(a, b, c, d, e)
		turned, _ := ratio.SignRoots(opposite(a), opposite(b), c, opposite(d), e)
		expect(t, "turned", turned, err, -s, api.OK)
		swapped, _ := ratio.SignRoots(a, d, e, b, c)
		expect(t, "swapped", swapped, err, s, api.OK)

		// Roots that are taken away, also where they are written with another number below the root.
		s, err = ratio.SignRoots("0", b, c, opposite(b), c)
		expect(t, "taken away", s, err, 0, api.OK)
		twice := text(new(big.Rat).Mul(value(c), big.NewRat(9, 4)))
		s, err = ratio.SignRoots(a, text(new(big.Rat).Mul(value(b), big.NewRat(-3, 2))), c, b, twice)
		expect(t, "taken away", s, err, value(a).Sign(), api.OK)
	}
}
