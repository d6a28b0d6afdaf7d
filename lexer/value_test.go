package lexer_test

import (
	"fmt"
	"math"
	"math/big"
	"math/rand"
	"slices"
	"strings"
	"testing"

	"metrolab/api"
	"metrolab/lexer"
)

// P14.2

func TestValue(t *testing.T) {
	for _, x := range []struct {
		s string
		x api.Rat
		e api.Errno
	}{
		{"12.50", "25/2", api.OK}, {"0", "0", api.OK}, {"0.000", "0", api.OK}, {"10.0", "10", api.OK}, {"0.05", "1/20", api.OK}, {"100", "100", api.OK}, {"0.0000000000000000000001", "1/10000000000000000000000", api.OK}, {"999999999999999999999999", "999999999999999999999999", api.OK}, {"99999999999999999999.999", "99999999999999999999999/1000", api.OK},
		{"", "", api.ErrForm}, {"a", "", api.ErrForm}, {"01", "", api.ErrForm}, {"1.", "", api.ErrForm}, {".1", "", api.ErrForm}, {"-1", "", api.ErrForm}, {"1/2", "", api.ErrForm}, {"1.2.3", "", api.ErrForm}, {strings.Repeat("1", 25), "", api.ErrLong}, {"0" + strings.Repeat("1", 25), "", api.ErrForm},
	} {
		v, e := lexer.Value(x.s)
		expect(t, "Value("+x.s+")", []any{v, e}, []any{x.x, x.e})
	}
	r := rand.New(rand.NewSource(16))
	for range 5000 {
		s := fmt.Sprint(r.Intn(1 + r.Intn(2000)))
		if r.Intn(4) > 0 {
			s += "." + fmt.Sprintf("%0*d", 1+r.Intn(6), r.Intn(1+r.Intn(2000)))
		}
		want, _ := new(big.Rat).SetString(s)
		v, e := lexer.Value(s)
		expect(t, "Value("+s+")", []any{v, e}, []any{want.RatString(), api.OK})
	}
}

// decimal returns the decimal digits of a number by their definition.
func decimal(v *big.Rat) (string, api.Errno) {
	rest := new(big.Int).Set(v.Denom())
	places := 0
	for _, p := range []int64{2, 5} {
		n := 0
		for new(big.Int).Rem(rest, big.NewInt(p)).Sign() == 0 {
			rest.Quo(rest, big.NewInt(p))
			n++
		}
		places = max(places, n)
	}
	if rest.Cmp(big.NewInt(1)) > 0 {
		return "", api.ErrState
	}
	return v.FloatString(places), api.OK
}

func TestDecimal(t *testing.T) {
	nines := api.Rat(strings.Repeat("9", 1024))
	for _, x := range []struct {
		x api.Rat
		s string
		e api.Errno
	}{
		{"25/2", "12.5", api.OK}, {"1/3", "", api.ErrState}, {"-7/4", "-1.75", api.OK}, {"0", "0", api.OK}, {"-100", "-100", api.OK}, {"1/10", "0.1", api.OK}, {"-1/100", "-0.01", api.OK}, {"1/2", "0.5", api.OK}, {"1/5", "0.2", api.OK}, {"3/40", "0.075", api.OK}, {"1001/1000", "1.001", api.OK}, {"100/3", "", api.ErrState}, {"1/30", "", api.ErrState}, {"-1/7", "", api.ErrState}, {"1/11", "", api.ErrState},
		{nines, string(nines), api.OK}, {"-" + nines, "-" + string(nines), api.OK}, {"1/" + nines, "", api.ErrState}, {nines + "/2", "4" + strings.Repeat("9", 1023) + ".5", api.OK}, {"1/1" + api.Rat(strings.Repeat("0", 1023)), "0." + strings.Repeat("0", 1022) + "1", api.OK},
		{"", "", api.ErrForm}, {"2/4", "", api.ErrForm}, {"1/0", "", api.ErrForm}, {"0.5", "", api.ErrForm}, {"05", "", api.ErrForm}, {"-0", "", api.ErrForm}, {"5/1", "", api.ErrForm}, {nines + "9", "", api.ErrLarge}, {"1/" + nines + "9", "", api.ErrLarge}, {nines + "9/x", "", api.ErrForm},
	} {
		s, e := lexer.Decimal(x.x)
		expect(t, fmt.Sprintf("Decimal(%.50s)", x.x), []any{s, e}, []any{x.s, x.e})
	}
	r := rand.New(rand.NewSource(17))
	for range 5000 {
		v := big.NewRat(r.Int63n(2001)-1000, []int64{1 + r.Int63n(200), 1 << r.Intn(12), 8 * 625, 1000, 25 * 3}[r.Intn(5)])
		want, error := decimal(v)
		s, e := lexer.Decimal(api.Rat(v.RatString()))
		expect(t, "Decimal("+v.RatString()+")", []any{s, e}, []any{want, error})
		if e == api.OK {
			natural, minus := strings.CutPrefix(s, "-")
			x, e := lexer.Value(natural)
			if minus && v.Sign() < 0 {
				x = "-" + x
			}
			expect(t, "Value of Decimal", []any{x, e}, []any{v.RatString(), api.OK})
		}
	}
}

// Digits may be more than those of the longest integer.
func TestLongDecimals(t *testing.T) {
	power := func(base, n int64) *big.Int { return new(big.Int).Exp(big.NewInt(base), big.NewInt(n), nil) }
	nines := new(big.Int).Sub(power(10, 1024), big.NewInt(1))
	for _, den := range []*big.Int{power(2, 3401), power(5, 1465), power(10, 1023), new(big.Int).Mul(power(2, 1700), power(5, 700)), new(big.Int).Mul(power(2, 300), power(5, 1300)), new(big.Int).Mul(power(2, 3390), big.NewInt(3)), new(big.Int).Mul(power(10, 1000), big.NewInt(7))} {
		if len(den.String()) > 1024 {
			t.Fatalf("a denominator of %d digits", len(den.String()))
		}
		for _, num := range []*big.Int{big.NewInt(1), big.NewInt(-123456789), nines, new(big.Int).Neg(den), new(big.Int).Sub(den, big.NewInt(1))} {
			v := new(big.Rat).SetFrac(num, den)
			want, error := decimal(v)
			s, e := lexer.Decimal(api.Rat(v.RatString()))
			expect(t, fmt.Sprintf("Decimal(%.50s ..)", v.RatString()), []any{s, e}, []any{want, error})
		}
	}
}

func TestSigned(t *testing.T) {
	text, _, _ := lexer.Scan("-1.50 + 2 - - 3 a 0 -0 +")
	odd := slices.Concat(word("-"), number("5", "05", strings.Repeat("1", 25)), sign("-"), number("05"), sign("+"), word("5"), sign("5", "-"), number("-5"), of(9, "5"), sign("-"))
	for _, x := range []struct {
		l        []api.Token
		at, next int
		x        api.Rat
		e        api.Errno
	}{
		{text, 0, 2, "-3/2", api.OK}, {text, 1, 2, "3/2", api.OK}, {text, 2, 4, "2", api.OK}, {text, 3, 4, "2", api.OK}, {text, 4, 0, "", api.ErrSyntax}, {text, 5, 7, "-3", api.OK}, {text, 7, 0, "", api.ErrSyntax}, {text, 8, 9, "0", api.OK}, {text, 9, 11, "0", api.OK}, {text, 11, 0, "", api.ErrSyntax}, {text, 12, 0, "", api.ErrSyntax},
		{text, 13, 0, "", api.ErrRange}, {text, -1, 0, "", api.ErrRange}, {text, math.MaxInt, 0, "", api.ErrRange}, {text, math.MinInt, 0, "", api.ErrRange}, {nil, 0, 0, "", api.ErrRange},
		{odd, 0, 0, "", api.ErrSyntax}, {odd, 1, 2, "5", api.OK}, {odd, 2, 0, "", api.ErrForm}, {odd, 3, 0, "", api.ErrLong}, {odd, 4, 0, "", api.ErrForm}, {odd, 6, 0, "", api.ErrSyntax}, {odd, 7, 0, "", api.ErrSyntax}, {odd, 8, 0, "", api.ErrSyntax}, {odd, 9, 0, "", api.ErrForm}, {odd, 10, 0, "", api.ErrForm}, {odd, 11, 0, "", api.ErrSyntax}, {odd, 12, 0, "", api.ErrSyntax},
		{number("7"), 0, 1, "7", api.OK}, {slices.Concat(sign("-"), number("7")), 0, 2, "-7", api.OK}, {slices.Concat(sign("*"), number("7")), 0, 0, "", api.ErrSyntax}, {slices.Concat(number("7"), slices.Repeat(sign("("), 5000)), 0, 1, "7", api.OK},
	} {
		v, next, e := lexer.Signed(x.l, x.at)
		expect(t, fmt.Sprintf("Signed(%v .., %d)", x.l[:min(5, len(x.l))], x.at), []any{v, next, e}, []any{x.x, x.next, x.e})
	}
}

// P14.3

// What is written of values in digits are the digits up to zeros at the end.
func TestDigitsOfValues(t *testing.T) {
	for _, natural := range []string{"0", "7", "10", "1200", "98765432109876"} {
		for _, behind := range []string{"", ".0", ".5", ".50", ".05", ".123456789", ".100000000", ".000000001"} {
			s := natural + behind
			x, e := lexer.Value(s)
			if e != api.OK {
				t.Fatalf("Value(%s): error %d", s, e)
			}
			want := s
			if behind != "" {
				want = strings.TrimSuffix(strings.TrimRight(s, "0"), ".")
			}
			digits, e := lexer.Decimal(x)
			expect(t, "digits of "+s, []any{digits, e}, []any{want, api.OK})
		}
	}
}
