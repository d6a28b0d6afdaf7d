package whole_test

import (
	"math"
	"math/big"
	"math/rand"
	"slices"
	"strings"
	"testing"

	"metrolab/api"
	"metrolab/whole"
)

// junk are texts that are no canonical integers.
var junk = []api.Int{"", "-", "+", "05", "-0", "+7", "--1", "1-", "00", "-00", "-07", " 1", "1 ", "1e3", "0x1", "1.0", "1_0", "1/2", "\x00", "٣", "é", "9\xff", api.Int(strings.Repeat("0", 2000)), api.Int(strings.Repeat("9", 2000)) + "x"}

func nines(n int) api.Int { return api.Int(strings.Repeat("9", n)) }

func power10(n int) api.Int { return "1" + api.Int(strings.Repeat("0", n)) }

func value(a api.Int) *big.Int {
	v, ok := new(big.Int).SetString(string(a), 10)
	if !ok {
		panic("no integer: " + a)
	}
	return v
}

// expect checks a result against an integer, which may be too long.
func expect(t *testing.T, what string, got api.Int, e api.Errno, v *big.Int) {
	t.Helper()
	text := api.Int(v.String())
	if len(strings.TrimPrefix(string(text), "-")) > api.MaxLong {
		expectError(t, what, got, e, api.ErrLarge)
	} else if got != text || e != api.OK {
		t.Errorf("%s: %s, error %d instead of %s", what, got, e, text)
	}
}

func expectError(t *testing.T, what string, got api.Int, e, wanted api.Errno) {
	t.Helper()
	if got != "" || e != wanted {
		t.Errorf("%s: %q, error %d instead of error %d", what, got, e, wanted)
	}
}

// samples are integers of all sizes and of shapes that are hard to divide: words that are all 9 or all 0, and words about half of their range.
func samples() []api.Int {
	l := []api.Int{"0", "1", "2", "3", "4", "5", "6", "7", "10", "12", "30", "97", "999999999", "1000000000", "1000000001", "500000000", "499999999",
		"999999999999999999", "1000000000000000000", "1000000000999999999", "999999999000000000", "9223372036854775807", "9223372036854775808",
		"500000000000000000000000000", "499999999999999999999999999", "999999999999999999000000000", "500000000000000000000000001",
		nines(512), nines(513), nines(1023), nines(api.MaxLong), power10(511), power10(512), power10(1023)}
	r := rand.New(rand.NewSource(1))
	for _, digits := range []int{3, 8, 9, 10, 17, 18, 19, 26, 27, 28, 36, 45, 100, 300, 511, 512, 513, 700, 1024} {
		var plain, rough strings.Builder
		plain.WriteByte(byte('1' + r.Intn(9)))
		for plain.Len() < digits {
			plain.WriteByte(byte('0' + r.Intn(10)))
		}
		rough.WriteString("1")
		for rough.Len() < digits {
			rough.WriteString([]string{"999999999", "000000000", "500000000", "499999999", "000000001"}[r.Intn(5)])
		}
		l = append(l, api.Int(plain.String()), api.Int(rough.String()[:digits]))
	}
	for _, a := range slices.Clone(l[1:]) {
		l = append(l, "-"+a)
	}
	return l
}

// P1.1

func TestCheck(t *testing.T) {
	for _, a := range junk {
		if e := whole.Check(a); e != api.ErrForm {
			t.Errorf("Check(%q): %d", a, e)
		}
	}
	for _, a := range []api.Int{nines(api.MaxLong + 1), "-" + nines(api.MaxLong+1), power10(5000)} {
		if e := whole.Check(a); e != api.ErrLarge {
			t.Errorf("Check of %d bytes: %d", len(a), e)
		}
	}
	for _, a := range samples() {
		if e := whole.Check(a); e != api.OK {
			t.Errorf("Check(%s): %d", a, e)
		}
	}
}

// Each function checks its arguments first, from left to right.
func TestArguments(t *testing.T) {
	long, bad := nines(api.MaxLong+1), api.Int("05")
	text := func(f func(a, b api.Int) (api.Int, api.Errno)) func(a, b api.Int) (bool, api.Errno) {
		return func(a, b api.Int) (bool, api.Errno) {
			c, e := f(a, b)
			return c == "", e
		}
	}
	two := map[string]func(a, b api.Int) (bool, api.Errno){
		"Add": text(whole.Add), "Sub": text(whole.Sub), "Mul": text(whole.Mul), "Quo": text(whole.Quo), "Rem": text(whole.Rem), "Gcd": text(whole.Gcd),
		"Compare": func(a, b api.Int) (bool, api.Errno) {
			n, e := whole.Compare(a, b)
			return n == 0, e
		},
	}
	for name, f := range two {
		for _, x := range []struct {
			a, b api.Int
			e    api.Errno
		}{{bad, long, api.ErrForm}, {long, bad, api.ErrLarge}, {"1", bad, api.ErrForm}, {"1", "-" + long, api.ErrLarge}, {long, "0", api.ErrLarge}, {bad, "0", api.ErrForm}} {
			if zero, e := f(x.a, x.b); !zero || e != x.e {
				t.Errorf("%s(%.9s, %.9s): %t, error %d instead of %d", name, x.a, x.b, zero, e, x.e)
			}
		}
	}
	for _, a := range append(junk, long, "-"+long) {
		small, e := whole.Small(a)
		sign, f := whole.Sign(a)
		neg, g := whole.Neg(a)
		pow, h := whole.Pow(a, -1)
		wanted := whole.Check(a)
		if small != 0 || sign != 0 || neg != "" || pow != "" || e != wanted || f != wanted || g != wanted || h != wanted {
			t.Errorf("%.9q: %d %d %q %q, errors %d %d %d %d instead of %d", a, small, sign, neg, pow, e, f, g, h, wanted)
		}
	}
}

func TestOfSmall(t *testing.T) {
	for _, x := range []struct {
		n int
		a api.Int
	}{{0, "0"}, {7, "7"}, {-1, "-1"}, {-1000, "-1000"}, {1 << 40, "1099511627776"}, {math.MaxInt64, "9223372036854775807"}, {math.MinInt64, "-9223372036854775808"}} {
		if a := whole.Of(x.n); a != x.a {
			t.Errorf("Of(%d): %s", x.n, a)
		}
		if n, e := whole.Small(x.a); n != x.n || e != api.OK {
			t.Errorf("Small(%s): %d, error %d", x.a, n, e)
		}
	}
	for _, a := range []api.Int{"9223372036854775808", "-9223372036854775809", "18446744073709551616", "18446744073709551617", nines(api.MaxLong)} {
		if n, e := whole.Small(a); n != 0 || e != api.ErrRange {
			t.Errorf("Small(%s): %d, error %d", a, n, e)
		}
	}
}

func TestSignCompareNeg(t *testing.T) {
	all := samples()
	for _, a := range all {
		v := value(a)
		if s, e := whole.Sign(a); s != v.Sign() || e != api.OK {
			t.Errorf("Sign(%s): %d, error %d", a, s, e)
		}
		neg, e := whole.Neg(a)
		expect(t, "Neg", neg, e, new(big.Int).Neg(v))
		for _, b := range all {
			if c, e := whole.Compare(a, b); c != v.Cmp(value(b)) || e != api.OK {
				t.Errorf("Compare(%s, %s): %d, error %d", a, b, c, e)
			}
		}
	}
}

func TestAddSub(t *testing.T) {
	all := samples()
	for _, a := range all {
		for _, b := range all {
			v, w := value(a), value(b)
			sum, e := whole.Add(a, b)
			expect(t, "Add", sum, e, new(big.Int).Add(v, w))
			difference, e := whole.Sub(a, b)
			expect(t, "Sub", difference, e, new(big.Int).Sub(v, w))
		}
	}
	for _, x := range []struct{ a, b, sum api.Int }{{nines(9), "1", power10(9)}, {power10(1023), "-1", nines(1023)}, {"-" + power10(18), "1", "-" + nines(18)}, {nines(1024), "-" + nines(1024), "0"}} {
		if sum, e := whole.Add(x.a, x.b); sum != x.sum || e != api.OK {
			t.Errorf("Add(%s, %s): %s, error %d", x.a, x.b, sum, e)
		}
	}
	sum, e := whole.Add(nines(api.MaxLong), "1")
	expectError(t, "Add", sum, e, api.ErrLarge)
	difference, e := whole.Sub("-"+nines(api.MaxLong), "1")
	expectError(t, "Sub", difference, e, api.ErrLarge)
}

func TestTotal(t *testing.T) {
	all := samples()
	sum := new(big.Int)
	for i, a := range all {
		sum.Add(sum, value(a))
		total, e := whole.Total(all[:i+1])
		expect(t, "Total", total, e, sum)
	}
	most := slices.Repeat([]api.Int{nines(api.MaxLong)}, api.MaxEvents)
	total, e := whole.Total(most)
	expectError(t, "Total", total, e, api.ErrLarge)
	// The sums on the way may be too long.
	for i := range most[:api.MaxEvents/2] {
		most[api.MaxEvents-1-i] = "-" + nines(api.MaxLong)
	}
	most[0] = "3"
	kept := slices.Clone(most)
	total, e = whole.Total(most)
	expect(t, "Total", total, e, new(big.Int).Sub(big.NewInt(3), value(nines(api.MaxLong))))
	if !slices.Equal(most, kept) {
		t.Error("Total changes its argument")
	}
	for _, x := range []struct {
		l []api.Int
		a api.Int
		e api.Errno
	}{
		{nil, "0", api.OK}, {[]api.Int{}, "0", api.OK}, {[]api.Int{"-5"}, "-5", api.OK}, {[]api.Int{"1", "-2", "3"}, "2", api.OK},
		{[]api.Int{"1", "", nines(1025)}, "", api.ErrForm}, {[]api.Int{"1", nines(1025), ""}, "", api.ErrLarge}, {[]api.Int{nines(1024), nines(1024), "01"}, "", api.ErrForm},
		{make([]api.Int, api.MaxEvents), "", api.ErrForm}, {make([]api.Int, api.MaxEvents+1), "", api.ErrMany}, {slices.Repeat([]api.Int{"1"}, api.MaxEvents+1), "", api.ErrMany},
	} {
		if a, e := whole.Total(x.l); a != x.a || e != x.e {
			t.Errorf("Total of %d: %s, error %d", len(x.l), a, e)
		}
	}
}

// P1.2

func TestMul(t *testing.T) {
	all := samples()
	for _, a := range all {
		for _, b := range all {
			product, e := whole.Mul(a, b)
			expect(t, "Mul", product, e, new(big.Int).Mul(value(a), value(b)))
		}
	}
	product, e := whole.Mul(power10(511), power10(512))
	expect(t, "Mul", product, e, value(power10(1023)))
	product, e = whole.Mul(power10(512), power10(512))
	expectError(t, "Mul", product, e, api.ErrLarge)
}

// floor divides so that the quotient is rounded down.
func floor(a, b *big.Int) (*big.Int, *big.Int) {
	q, r := new(big.Int).QuoRem(a, b, new(big.Int))
	if r.Sign() != 0 && r.Sign() != b.Sign() {
		q.Sub(q, big.NewInt(1))
		r.Add(r, b)
	}
	return q, r
}

func TestQuoRem(t *testing.T) {
	all := samples()
	for _, a := range all {
		for _, b := range all {
			if b == "0" {
				continue
			}
			q, r := floor(value(a), value(b))
			quotient, e := whole.Quo(a, b)
			expect(t, "Quo("+string(a)+", "+string(b)+")", quotient, e, q)
			remainder, e := whole.Rem(a, b)
			expect(t, "Rem("+string(a)+", "+string(b)+")", remainder, e, r)
		}
		quotient, e := whole.Quo(a, "0")
		expectError(t, "Quo", quotient, e, api.ErrZero)
		remainder, e := whole.Rem(a, "0")
		expectError(t, "Rem", remainder, e, api.ErrZero)
	}
	for _, x := range []struct{ a, b, q, r api.Int }{
		{"-17", "5", "-4", "3"}, {"17", "-5", "-4", "-3"}, {"17", "5", "3", "2"}, {"-17", "-5", "3", "-2"}, {"-20", "5", "-4", "0"}, {"0", "-5", "0", "0"}, {"1", nines(1024), "0", "1"},
		{"-1", nines(1024), "-1", "9" + nines(1022) + "8"}, {nines(1024), "-1", "-" + nines(1024), "0"},
	} {
		q, e := whole.Quo(x.a, x.b)
		r, f := whole.Rem(x.a, x.b)
		if q != x.q || r != x.r || e != api.OK || f != api.OK {
			t.Errorf("%s divided by %s: %s and %s, errors %d and %d", x.a, x.b, q, r, e, f)
		}
	}
}

// Quotients of numbers that are just below and above a multiple of the divisor make a guess of a quotient's word fail.
func TestQuoNearMultiples(t *testing.T) {
	all := samples()
	for _, b := range all {
		for _, c := range all {
			v, w := value(b), value(c)
			if v.Sign() == 0 || len(b)+len(c) > api.MaxLong {
				continue
			}
			for d := int64(-1); d <= 1; d++ {
				a := new(big.Int).Add(new(big.Int).Mul(v, w), big.NewInt(d))
				q, r := floor(a, v)
				quotient, e := whole.Quo(api.Int(a.String()), b)
				expect(t, "Quo", quotient, e, q)
				remainder, e := whole.Rem(api.Int(a.String()), b)
				expect(t, "Rem", remainder, e, r)
			}
		}
	}
}

func TestGcd(t *testing.T) {
	gcd := func(a, b *big.Int) *big.Int {
		return new(big.Int).GCD(nil, nil, new(big.Int).Abs(a), new(big.Int).Abs(b))
	}
	all := samples()
	for _, a := range all {
		for _, b := range all {
			divisor, e := whole.Gcd(a, b)
			expect(t, "Gcd("+string(a)+", "+string(b)+")", divisor, e, gcd(value(a), value(b)))
			for _, c := range []api.Int{"6", "1000000007", "500000000000000000000000000", power10(100)} {
				v, w := new(big.Int).Mul(value(a), value(c)), new(big.Int).Mul(value(b), value(c))
				if len(v.String()) < api.MaxLong && len(w.String()) < api.MaxLong {
					divisor, e := whole.Gcd(api.Int(v.String()), api.Int(w.String()))
					expect(t, "Gcd", divisor, e, gcd(v, w))
				}
			}
		}
	}
	for _, x := range []struct{ a, b, c api.Int }{{"-84", "36", "12"}, {"0", "0", "0"}, {"0", "-7", "7"}, {"-7", "0", "7"}, {"-4", "-6", "2"}, {"1", nines(1024), "1"}, {"-" + nines(1024), nines(1024), nines(1024)}} {
		if c, e := whole.Gcd(x.a, x.b); c != x.c || e != api.OK {
			t.Errorf("Gcd(%s, %s): %s, error %d", x.a, x.b, c, e)
		}
	}
}

// Neighbours of the Fibonacci series take the most steps; with a greater first factor, the quotients vary.
func TestGcdOfSeries(t *testing.T) {
	for _, factor := range []int64{1, 2, 9, 999999999, 1 << 40} {
		a, b := big.NewInt(6), big.NewInt(10)
		for step := int64(0); len(b.String()) < api.MaxLong-20; step++ {
			f := big.NewInt(1 + (factor-1)*(step%3)/2)
			a, b = b, new(big.Int).Add(a, f.Mul(f, b))
			divisor, e := whole.Gcd(api.Int(a.String()), api.Int(b.String()))
			expect(t, "Gcd", divisor, e, big.NewInt(2))
		}
	}
}

func TestPow(t *testing.T) {
	for _, a := range []api.Int{"0", "1", "-1", "2", "-2", "3", "10", "-10", "11", "999999999", "1000000000", nines(512), "-" + nines(1024)} {
		for n := range 70 {
			power, e := whole.Pow(a, n)
			expect(t, "Pow", power, e, new(big.Int).Exp(value(a), big.NewInt(int64(n)), nil))
		}
		for _, n := range []int{100, 341, 342, 1023, 1024, 3400, 3401, 3402, 4095, 4096} {
			power, e := whole.Pow(a, n)
			if len(a) > 20 {
				expectError(t, "Pow", power, e, api.ErrLarge)
			} else {
				expect(t, "Pow", power, e, new(big.Int).Exp(value(a), big.NewInt(int64(n)), nil))
			}
		}
		for _, n := range []int{-1, math.MinInt64, api.MaxEvents + 1, math.MaxInt64} {
			power, e := whole.Pow(a, n)
			expectError(t, "Pow", power, e, api.ErrRange)
		}
	}
	if power, e := whole.Pow("2", 70); power != "1180591620717411303424" || e != api.OK {
		t.Errorf("Pow(2, 70): %s, error %d", power, e)
	}
}

func TestBinomial(t *testing.T) {
	for _, n := range []int{0, 1, 2, 3, 10, 37, 100, 1000, 3404, 3405, 3410, 4095, 4096} {
		for k := -2; k <= n+2; k += 1 + n/97 {
			sets, e := whole.Binomial(n, k)
			if k < 0 || k > n {
				expect(t, "Binomial", sets, e, new(big.Int))
			} else {
				expect(t, "Binomial", sets, e, new(big.Int).Binomial(int64(n), int64(k)))
			}
		}
		for _, k := range []int{math.MinInt64, math.MaxInt64} {
			sets, e := whole.Binomial(n, k)
			expect(t, "Binomial", sets, e, new(big.Int))
		}
	}
	// The first n with binomials that are too long, and its first and last k.
	for n := 3395; n <= 3420; n++ {
		sets, e := whole.Binomial(n, n/2)
		expect(t, "Binomial", sets, e, new(big.Int).Binomial(int64(n), int64(n/2)))
	}
	if sets, e := whole.Binomial(10, 3); sets != "120" || e != api.OK {
		t.Errorf("Binomial(10, 3): %s, error %d", sets, e)
	}
	for _, n := range []int{-1, api.MaxEvents + 1, math.MinInt64, math.MaxInt64} {
		sets, e := whole.Binomial(n, 0)
		expectError(t, "Binomial", sets, e, api.ErrRange)
		sets, e = whole.Binomial(n, -1)
		expectError(t, "Binomial", sets, e, api.ErrRange)
	}
}

// P1.3

// must returns a result without an error.
func must(t *testing.T) func(a api.Int, e api.Errno) api.Int {
	return func(a api.Int, e api.Errno) api.Int {
		t.Helper()
		if e != api.OK {
			t.Fatalf("error %d", e)
		}
		return a
	}
}

func TestLaws(t *testing.T) {
	ok := must(t)
	same := func(law string, a, b api.Int) {
		t.Helper()
		if a != b {
			t.Errorf("%s: %s and %s", law, a, b)
		}
	}
	var l []api.Int
	for _, a := range samples() {
		if len(a) < 330 {
			l = append(l, a)
		}
	}
	for i, a := range l {
		b, c := l[(i*7+3)%len(l)], l[(i*11+5)%len(l)]
		same("sums commute", ok(whole.Add(a, b)), ok(whole.Add(b, a)))
		same("products commute", ok(whole.Mul(a, b)), ok(whole.Mul(b, a)))
		same("sums associate", ok(whole.Add(ok(whole.Add(a, b)), c)), ok(whole.Add(a, ok(whole.Add(b, c)))))
		same("products associate", ok(whole.Mul(ok(whole.Mul(a, b)), c)), ok(whole.Mul(a, ok(whole.Mul(b, c)))))
		same("products distribute", ok(whole.Mul(a, ok(whole.Add(b, c)))), ok(whole.Add(ok(whole.Mul(a, b)), ok(whole.Mul(a, c)))))
		same("zero", ok(whole.Add(a, "0")), a)
		same("one", ok(whole.Mul(a, "1")), a)
		same("opposite", ok(whole.Add(a, ok(whole.Neg(a)))), "0")
		same("difference", ok(whole.Add(ok(whole.Sub(a, b)), b)), a)
		if b != "0" {
			same("factor", ok(whole.Quo(ok(whole.Mul(a, b)), b)), a)
			same("no remainder", ok(whole.Rem(ok(whole.Mul(a, b)), b)), "0")
			same("division", ok(whole.Add(ok(whole.Mul(ok(whole.Quo(a, b)), b)), ok(whole.Rem(a, b)))), a)
		}
		if c != "0" {
			greatest := ok(whole.Gcd(ok(whole.Mul(a, c)), ok(whole.Mul(b, c))))
			same("common divisor", ok(whole.Rem(greatest, c)), "0")
		}
	}
}

func TestBinomialLaws(t *testing.T) {
	ok := must(t)
	for _, n := range []int{1, 2, 9, 64, 200, 3000} {
		var row []api.Int
		for k := 0; k <= n; k++ {
			row = append(row, ok(whole.Binomial(n, k)))
			if n > 200 && k%300 != 0 {
				continue
			}
			if sum := ok(whole.Add(ok(whole.Binomial(n-1, k-1)), ok(whole.Binomial(n-1, k)))); sum != row[k] {
				t.Errorf("binomial of %d and %d: %s instead of %s", n, k, row[k], sum)
			}
		}
		if total, power := ok(whole.Total(row)), ok(whole.Pow("2", n)); total != power {
			t.Errorf("binomials of %d: %s instead of %s", n, total, power)
		}
	}
}
