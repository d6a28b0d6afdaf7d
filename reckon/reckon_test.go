package reckon_test

import (
	"math/big"
	"math/rand"
	"slices"
	"strings"
	"testing"

	"metrolab/api"
	"metrolab/ratio"
	"metrolab/reckon"
	"metrolab/whole"
)

func value(a api.Rat) *big.Rat {
	v, ok := new(big.Rat).SetString(string(a))
	if !ok {
		panic("no number: " + a)
	}
	return v
}

func numbers() []api.Rat {
	l := []api.Rat{"0", "1", "-1", "2", "-3", "1/2", "-1/2", "2/3", "-3/2", "5/6", "-7/12", "12/7", "7/12", "-5/36", "1/999999999999999999", api.Rat(strings.Repeat("9", 300)), "-1/" + api.Rat(strings.Repeat("9", 300))}
	r := rand.New(rand.NewSource(3))
	for range 20 {
		l = append(l, api.Rat(big.NewRat(r.Int63n(2000)-1000, 1+r.Int63n(120)).RatString()))
	}
	return l
}

func TestOperations(t *testing.T) {
	for _, a := range numbers() {
		for _, b := range numbers() {
			var k reckon.Keeper
			v, w := value(a), value(b)
			for _, x := range []struct {
				what   string
				got    api.Rat
				wanted *big.Rat
			}{
				{"Sum", k.Sum(a, b), new(big.Rat).Add(v, w)},
				{"Difference", k.Difference(a, b), new(big.Rat).Sub(v, w)},
				{"Product", k.Product(a, b), new(big.Rat).Mul(v, w)},
				{"Of", k.Of(ratio.Add, a, b), new(big.Rat).Add(v, w)},
			} {
				if x.got != api.Rat(x.wanted.RatString()) || k.Errno != api.OK {
					t.Errorf("%s of %s and %s: %s, error %d", x.what, a, b, x.got, k.Errno)
				}
			}
			if order := k.Order(a, b); order != v.Cmp(w) || k.Errno != api.OK {
				t.Errorf("Order of %s and %s: %d, error %d", a, b, order, k.Errno)
			}
		}
	}
}

// What is in lowest terms short enough is found, though ratio's products are too long.
func TestLong(t *testing.T) {
	x, y := api.Rat("1"+strings.Repeat("0", 598)+"1"), api.Rat("1"+strings.Repeat("0", 599))
	var k reckon.Keeper
	if product := k.Product(x+"/"+y, y+"/"+x); product != "1" {
		t.Errorf("product %s, error %d", product, k.Errno)
	}
	if sum := k.Sum("-1/"+x, "3/"+x); sum != "2/"+x {
		t.Errorf("sum %s, error %d", sum, k.Errno)
	}
	if difference := k.Difference(y+"/"+x, y+"/"+x); difference != "0" || k.Errno != api.OK {
		t.Errorf("difference %s, error %d", difference, k.Errno)
	}
	for _, f := range []func(k *reckon.Keeper){
		func(k *reckon.Keeper) { k.Product(x, y) },
		func(k *reckon.Keeper) { k.Sum(x, "1/"+y) },
		func(k *reckon.Keeper) { k.Difference("1/"+x, "1/"+y) },
		func(k *reckon.Keeper) { k.Order(x, "1/"+y) },
		func(k *reckon.Keeper) { k.Of(ratio.Mul, x+"/"+y, y+"/"+x) },
	} {
		var k reckon.Keeper
		if f(&k); k.Errno != api.ErrLarge {
			t.Errorf("error %d", k.Errno)
		}
	}
}

func TestCheck(t *testing.T) {
	long := api.Rat(strings.Repeat("7", 1025))
	for i, x := range []struct {
		lists [][]api.Rat
		e     api.Errno
	}{{nil, api.OK}, {[][]api.Rat{nil, {}}, api.OK}, {[][]api.Rat{{"1", "-1/2"}, nil, {"0"}}, api.OK}, {[][]api.Rat{{"1", "2/2"}, {long}}, api.ErrForm}, {[][]api.Rat{{"1"}, {long, ""}}, api.ErrLarge}} {
		if e := reckon.Check(x.lists...); e != x.e {
			t.Errorf("Check %d: %d instead of %d", i, e, x.e)
		}
	}
}

func TestDot(t *testing.T) {
	all := numbers()
	for i := range 15 {
		var k reckon.Keeper
		a, b, wanted := all[i:i+3], all[2*i:2*i+3], new(big.Rat)
		for j, x := range a {
			wanted.Add(wanted, new(big.Rat).Mul(value(x), value(b[j])))
		}
		if sum := k.Dot(a, b); sum != api.Rat(wanted.RatString()) || k.Errno != api.OK {
			t.Errorf("Dot of %s and %s: %s, error %d", a, b, sum, k.Errno)
		}
	}
	var k reckon.Keeper
	if sum := k.Dot(nil, nil); sum != "0" || k.Errno != api.OK {
		t.Errorf("Dot of nothing: %s, error %d", sum, k.Errno)
	}
	long := api.Rat(strings.Repeat("7", 600))
	if k.Dot([]api.Rat{"1", long}, []api.Rat{"1", long}); k.Errno != api.ErrLarge {
		t.Errorf("Dot of long numbers: error %d", k.Errno)
	}
}

func TestIntegers(t *testing.T) {
	var k reckon.Keeper
	num, den := k.Parts("-3/4")
	product, quotient := k.Whole(whole.Mul, num, den), k.Quotient("6", "-4")
	if num != "-3" || den != "4" || product != "-12" || quotient != "-3/2" || k.Errno != api.OK {
		t.Errorf("%s, %s, %s, %s, error %d", num, den, product, quotient, k.Errno)
	}
	for i, got := range []api.Int{k.Plus("7", "-12"), k.Minus("7", "-12"), k.Times("7", "-12"), k.Over("12", "-4"), k.Over("-7", "2"), k.Products([]api.Int{"2", "-3", "0"}, []api.Int{"5", "1", "9"}), k.Products(nil, nil), api.Int(ratio.Whole(k.Sign("-9") + 10*k.Sign("0") + 100*k.Sign("9")))} {
		if want := []api.Int{"-5", "19", "-84", "-3", "-4", "7", "0", "99"}[i]; got != want || k.Errno != api.OK {
			t.Errorf("%d: %s instead of %s, error %d", i, got, want, k.Errno)
		}
	}
	for _, f := range []func(k *reckon.Keeper){
		func(k *reckon.Keeper) { k.Parts("1/0") },
		func(k *reckon.Keeper) { k.Whole(whole.Mul, "1", "01") },
		func(k *reckon.Keeper) { k.Quotient("", "0") },
		func(k *reckon.Keeper) { k.Plus("1", "") },
		func(k *reckon.Keeper) { k.Minus("x", "1") },
		func(k *reckon.Keeper) { k.Times("1", "-0") },
		func(k *reckon.Keeper) { k.Over("", "1") },
		func(k *reckon.Keeper) { k.Sign("") },
		func(k *reckon.Keeper) { k.Products([]api.Int{"1", "2"}, []api.Int{"1", "x"}) },
		func(k *reckon.Keeper) { k.Common([]api.Rat{"1/2", "2/4"}) },
	} {
		var k reckon.Keeper
		if f(&k); k.Errno != api.ErrForm {
			t.Errorf("error %d", k.Errno)
		}
	}
}

func TestOrderOf(t *testing.T) {
	nines := api.Int(strings.Repeat("9", 1024))
	fractions := []reckon.Fraction{{"0", "7"}, {"1", nines}, {"1", nines[:1023] + "8"}, {"7", "28"}, {"3", "9"}, {"1", "3"}, {"4", "9"}, {"2", "4"}, {"5", "7"}, {nines[:1023] + "7", nines[:1023] + "8"}, {nines[:1023] + "8", nines}, {nines, nines}, {"7", "7"}, {nines, nines[:1023] + "8"}, {"9", "5"}, {"18", "5"}, {nines, "1"}}
	order := func(x reckon.Fraction) *big.Rat {
		num, _ := new(big.Int).SetString(string(x.Num), 10)
		den, _ := new(big.Int).SetString(string(x.Den), 10)
		return new(big.Rat).SetFrac(num, den)
	}
	for _, x := range fractions {
		for _, y := range fractions {
			var k reckon.Keeper
			if got := k.OrderOf(x, y); got != order(x).Cmp(order(y)) || k.Errno != api.OK {
				t.Errorf("OrderOf %.30s and %.30s: %d, error %d", x, y, got, k.Errno)
			}
		}
	}
	var k reckon.Keeper
	if got := k.OrderOf(reckon.Fraction{Num: "1", Den: "0"}, fractions[0]); got != 0 || k.Errno != api.ErrZero {
		t.Errorf("OrderOf a fraction without a denominator: %d, error %d", got, k.Errno)
	}
}

func TestCombine(t *testing.T) {
	var k reckon.Keeper
	row, other := []api.Int{"6", "-4", "5"}, []api.Int{"3", "-2", "7"}
	k.Combine(row, other, 0, "3", "1")
	if !slices.Equal(row, []api.Int{"0", "0", "-27"}) || !slices.Equal(other, []api.Int{"3", "-2", "7"}) || k.Errno != api.OK {
		t.Errorf("%v, %v, error %d", row, other, k.Errno)
	}
	row = []api.Int{"6", "-4", "8"}
	k.Combine(row, other, 1, "5", "2")
	if !slices.Equal(row, []api.Int{"21", "-14", "34"}) || k.Errno != api.OK {
		t.Errorf("%v, error %d", row, k.Errno)
	}
}

func TestCommon(t *testing.T) {
	for _, x := range []struct {
		l          []api.Rat
		numerators []api.Int
		common     api.Int
	}{{nil, nil, "1"}, {[]api.Rat{"5", "-3"}, []api.Int{"5", "-3"}, "1"}, {[]api.Rat{"1/6", "-3/4", "0", "2"}, []api.Int{"2", "-9", "0", "24"}, "12"}, {[]api.Rat{"1/2", "1/8", "1/4"}, []api.Int{"4", "1", "2"}, "8"}} {
		var k reckon.Keeper
		numerators, common := k.Common(x.l)
		if !slices.Equal(numerators, x.numerators) || common != x.common || k.Errno != api.OK {
			t.Errorf("Common(%s): %s over %s, error %d", x.l, numerators, common, k.Errno)
		}
	}
	var k reckon.Keeper
	long := api.Rat("1/1" + strings.Repeat("0", 599))
	if k.Common([]api.Rat{long, long + "1"}); k.Errno != api.ErrLarge {
		t.Errorf("error %d", k.Errno)
	}
}

func TestResult(t *testing.T) {
	text, e := reckon.Result(func(k *reckon.Keeper) api.Rat {
		k.Keep(api.OK)
		return k.Sum("1/3", "1/6")
	})
	if text != "1/2" || e != api.OK {
		t.Errorf("%s, error %d", text, e)
	}
	for i, f := range []func(k *reckon.Keeper) api.Rat{
		func(k *reckon.Keeper) api.Rat { k.Keep(api.ErrZero); return k.Sum("1", "") },
		func(k *reckon.Keeper) api.Rat { return k.Of(ratio.Div, "1", "0") },
		func(k *reckon.Keeper) api.Rat { return k.Sum("", k.Of(ratio.Div, "1", "0")) },
		func(k *reckon.Keeper) api.Rat { return k.Product("2/4", "1") },
		func(k *reckon.Keeper) api.Rat { return k.Difference("1", "x") },
		func(k *reckon.Keeper) api.Rat { k.Order("1", "01"); return "1" },
	} {
		wanted := api.ErrForm
		if i < 3 {
			wanted = api.ErrZero
		}
		if text, e := reckon.Result(f); text != "" || e != wanted {
			t.Errorf("%d: %q, error %d", i, text, e)
		}
	}
}
