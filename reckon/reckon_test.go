package reckon_test

import (
	"math/big"
	"math/rand"
	"strings"
	"testing"

	"metrolab/api"
	"metrolab/ratio"
	"metrolab/reckon"
)

func value(a api.Rat) *big.Rat {
	v, ok := new(big.Rat).SetString(string(a))
	if !ok {
		panic("no number: " + a)
	}
	return v
}

func numbers() []api.Rat {
	l := []api.Rat{"0", "1", "-1", "2", "-3", "1/2", "-1/2", "2/3", "-3/2", "5/6", "-7/12", "12/7", "7/12", "-5/36", "1/999999999999999999", api.Rat(strings.Repeat("9", 300)), "-1/" + api.Rat(strings.Repeat("9", 300))}
	r := rand.New(rand.NewSource(3))
	for range 20 {
		l = append(l, api.Rat(big.NewRat(r.Int63n(2000)-1000, 1+r.Int63n(120)).RatString()))
	}
	return l
}

func TestOperations(t *testing.T) {
	for _, a := range numbers() {
		for _, b := range numbers() {
			var k reckon.Keeper
			v, w := value(a), value(b)
			for _, x := range []struct {
				what   string
				got    api.Rat
				wanted *big.Rat
			}{
				{"Sum", k.Sum(a, b), new(big.Rat).Add(v, w)},
				{"Difference", k.Difference(a, b), new(big.Rat).Sub(v, w)},
				{"Product", k.Product(a, b), new(big.Rat).Mul(v, w)},
				{"Of", k.Of(ratio.Add, a, b), new(big.Rat).Add(v, w)},
			} {
				if x.got != api.Rat(x.wanted.RatString()) || k.Errno != api.OK {
					t.Errorf("%s of %s and %s: %s, error %d", x.what, a, b, x.got, k.Errno)
				}
			}
			if order := k.Order(a, b); order != v.Cmp(w) || k.Errno != api.OK {
				t.Errorf("Order of %s and %s: %d, error %d", a, b, order, k.Errno)
			}
		}
	}
}

// What is in lowest terms short enough is found, though ratio's products are too long.
func TestLong(t *testing.T) {
	x, y := api.Rat("1"+strings.Repeat("0", 598)+"1"), api.Rat("1"+strings.Repeat("0", 599))
	var k reckon.Keeper
	if product := k.Product(x+"/"+y, y+"/"+x); product != "1" {
		t.Errorf("product %s, error %d", product, k.Errno)
	}
	if sum := k.Sum("-1/"+x, "3/"+x); sum != "2/"+x {
		t.Errorf("sum %s, error %d", sum, k.Errno)
	}
	if difference := k.Difference(y+"/"+x, y+"/"+x); difference != "0" || k.Errno != api.OK {
		t.Errorf("difference %s, error %d", difference, k.Errno)
	}
	for _, f := range []func(k *reckon.Keeper){
		func(k *reckon.Keeper) { k.Product(x, y) },
		func(k *reckon.Keeper) { k.Sum(x, "1/"+y) },
		func(k *reckon.Keeper) { k.Difference("1/"+x, "1/"+y) },
		func(k *reckon.Keeper) { k.Order(x, "1/"+y) },
		func(k *reckon.Keeper) { k.Of(ratio.Mul, x+"/"+y, y+"/"+x) },
	} {
		var k reckon.Keeper
		if f(&k); k.Errno != api.ErrLarge {
			t.Errorf("error %d", k.Errno)
		}
	}
}

func TestResult(t *testing.T) {
	text, e := reckon.Result(func(k *reckon.Keeper) api.Rat {
		k.Keep(api.OK)
		return k.Sum("1/3", "1/6")
	})
	if text != "1/2" || e != api.OK {
		t.Errorf("%s, error %d", text, e)
	}
	for i, f := range []func(k *reckon.Keeper) api.Rat{
		func(k *reckon.Keeper) api.Rat { k.Keep(api.ErrZero); return k.Sum("1", "") },
		func(k *reckon.Keeper) api.Rat { return k.Of(ratio.Div, "1", "0") },
		func(k *reckon.Keeper) api.Rat { return k.Sum("", k.Of(ratio.Div, "1", "0")) },
		func(k *reckon.Keeper) api.Rat { return k.Product("2/4", "1") },
		func(k *reckon.Keeper) api.Rat { return k.Difference("1", "x") },
		func(k *reckon.Keeper) api.Rat { k.Order("1", "01"); return "1" },
	} {
		wanted := api.ErrForm
		if i < 3 {
			wanted = api.ErrZero
		}
		if text, e := reckon.Result(f); text != "" || e != wanted {
			t.Errorf("%d: %q, error %d", i, text, e)
		}
	}
}
