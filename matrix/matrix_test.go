package matrix_test

import (
	"math"
	"math/big"
	"math/rand"
	"reflect"
	"slices"
	"strings"
	"testing"

	"metrolab/api"
	"metrolab/matrix"
	"metrolab/ratio"
)

func of(rows, cols int, l ...api.Rat) api.Matrix {
	return api.Matrix{Rows: rows, Cols: cols, Cells: l}
}

func digits(s string, n int) api.Rat { return api.Rat(strings.Repeat(s, n/len(s)+1)[:n]) }

func value(a api.Rat) *big.Rat {
	v, ok := new(big.Rat).SetString(string(a))
	if !ok {
		panic("no number: " + a)
	}
	return v
}

func text(v *big.Rat) api.Rat { return api.Rat(v.RatString()) }

// expect compares results; nil and empty slices are equal.
func expect(t *testing.T, what string, got any, e api.Errno, wanted any, error api.Errno) {
	t.Helper()
	if m, ok := got.(api.Matrix); ok && matrix.Same(m, wanted.(api.Matrix)) && e == error {
		return
	}
	g, w := reflect.ValueOf(got), reflect.ValueOf(wanted)
	empty := g.Kind() == reflect.Slice && g.Len() == 0 && w.Len() == 0
	if !empty && !reflect.DeepEqual(got, wanted) || e != error {
		t.Errorf("%s: %.200s, error %d instead of %.200s, error %d", what, got, e, wanted, error)
	}
}

// expectNone checks that results beside an error are zero.
func expectNone(t *testing.T, what string, e, error api.Errno, results ...any) {
	t.Helper()
	for _, x := range results {
		if !reflect.ValueOf(x).IsZero() {
			t.Errorf("%s: %.200s beside the error %d", what, x, e)
		}
	}
	if e != error {
		t.Errorf("%s: error %d instead of %d", what, e, error)
	}
}

// wrong are no matrices, with the errors that Check must return.
var wrong = []struct {
	m api.Matrix
	e api.Errno
}{
	{of(-1, 0), api.ErrRange}, {of(0, -1), api.ErrRange}, {of(17, 0), api.ErrRange}, {of(0, 17), api.ErrRange}, {of(-1, -1, "x"), api.ErrRange}, {of(17, 1, "1"), api.ErrRange}, {of(math.MinInt64, 2), api.ErrRange}, {of(1<<32, 1<<32), api.ErrRange}, {of(2, math.MaxInt64), api.ErrRange},
	{of(1, 1), api.ErrShape}, {of(0, 0, "1"), api.ErrShape}, {of(2, 2, "1", "2", "3"), api.ErrShape}, {of(2, 2, "x", "2", "3", "4", "5"), api.ErrShape}, {of(0, 16, "x"), api.ErrShape},
	{of(1, 1, ""), api.ErrForm}, {of(2, 2, "1", "2", "3", "8/2"), api.ErrForm}, {of(1, 2, "-0", digits("7", 1025)), api.ErrForm}, {of(1, 2, digits("7", 1025), "-0"), api.ErrLarge}, {of(2, 1, "0", "1/"+digits("7", 1025)), api.ErrLarge},
}

// some returns matrices of all shapes; with few values many of them are singular.
func some(n int) []api.Matrix {
	r := rand.New(rand.NewSource(8))
	pools := [][]api.Rat{{"0", "1"}, {"0", "0", "0", "1", "-1", "2"}, {"0", "1", "-1", "1/2", "2/3", "-3/4", "5", "-7/3"}, {"12/7", "-98/57", "100003", "-1/977", "0", "31/64"}}
	var l []api.Matrix
	for range n {
		pool := pools[r.Intn(len(pools))]
		l = append(l, random(r, r.Intn(6), r.Intn(6), func() api.Rat { return pool[r.Intn(len(pool))] }))
	}
	return l
}

func random(r *rand.Rand, rows, cols int, entry func() api.Rat) api.Matrix {
	m := api.Matrix{Rows: rows, Cols: cols}
	for range rows * cols {
		m.Cells = append(m.Cells, entry())
	}
	return m
}

func column(r *rand.Rand, n int) []api.Rat {
	var l []api.Rat
	for range n {
		l = append(l, text(big.NewRat(r.Int63n(9)-4, 1+r.Int63n(3))))
	}
	return l
}

// P4.1

func TestCheck(t *testing.T) {
	for i, x := range wrong {
		if e := matrix.Check(x.m); e != x.e {
			t.Errorf("Check %d: %d instead of %d", i, e, x.e)
		}
	}
	for _, m := range append(some(100), of(0, 0), of(0, 16), of(16, 0), random(nil, 16, 16, func() api.Rat { return "-1/2" }), of(1, 1, digits("7", 1024))) {
		if e := matrix.Check(m); e != api.OK {
			t.Errorf("Check(%v): %d", m, e)
		}
	}
}

func TestOf(t *testing.T) {
	for _, x := range []struct {
		rows, cols int
		l          []int
		m          api.Matrix
		e          api.Errno
	}{
		{2, 3, []int{1, 0, -3, math.MaxInt64, math.MinInt64, 7}, of(2, 3, "1", "0", "-3", "9223372036854775807", "-9223372036854775808", "7"), api.OK}, {0, 16, nil, of(0, 16), api.OK}, {16, 0, []int{}, of(16, 0), api.OK}, {16, 16, make([]int, 256), of(16, 16, slices.Repeat([]api.Rat{"0"}, 256)...), api.OK},
		{-1, 0, nil, api.Matrix{}, api.ErrRange}, {0, -1, nil, api.Matrix{}, api.ErrRange}, {17, 0, nil, api.Matrix{}, api.ErrRange}, {1, 17, make([]int, 17), api.Matrix{}, api.ErrRange}, {1 << 32, 1 << 32, nil, api.Matrix{}, api.ErrRange}, {17, 2, []int{1}, api.Matrix{}, api.ErrRange},
		{2, 2, []int{1, 2, 3}, api.Matrix{}, api.ErrShape}, {2, 2, []int{1, 2, 3, 4, 5}, api.Matrix{}, api.ErrShape}, {0, 3, []int{1}, api.Matrix{}, api.ErrShape}, {1, 1, nil, api.Matrix{}, api.ErrShape},
	} {
		m, e := matrix.Of(x.rows, x.cols, x.l)
		expect(t, "Of", m, e, x.m, x.e)
	}
}

func TestUnit(t *testing.T) {
	for n := 0; n <= api.MaxSide; n++ {
		m, e := matrix.Unit(n)
		if m.Rows != n || m.Cols != n || len(m.Cells) != n*n || e != api.OK {
			t.Fatalf("Unit(%d): %v, error %d", n, m, e)
		}
		for i, a := range m.Cells {
			if one := i/n == i%n; one != (a == "1") || one == (a == "0") {
				t.Errorf("Unit(%d) has %s at %d", n, a, i)
			}
		}
	}
	for _, n := range []int{-1, 17, math.MinInt64, math.MaxInt64} {
		m, e := matrix.Unit(n)
		expectNone(t, "Unit", e, api.ErrRange, m)
	}
}

// product multiplies by the definition.
func product(a, b api.Matrix) api.Matrix {
	m := api.Matrix{Rows: a.Rows, Cols: b.Cols}
	for i := range a.Rows {
		for k := range b.Cols {
			sum := new(big.Rat)
			for j := range a.Cols {
				sum.Add(sum, new(big.Rat).Mul(value(a.Cells[i*a.Cols+j]), value(b.Cells[j*b.Cols+k])))
			}
			m.Cells = append(m.Cells, text(sum))
		}
	}
	return m
}

func TestProduct(t *testing.T) {
	all := some(120)
	for _, a := range all {
		for _, b := range all {
			m, e := matrix.Product(a, b)
			if a.Cols != b.Rows {
				expectNone(t, "Product", e, api.ErrShape, m)
			} else {
				expect(t, "Product", m, e, product(a, b), api.OK)
			}
		}
		transposed, e := matrix.Transpose(a)
		if transposed.Rows != a.Cols || transposed.Cols != a.Rows || len(transposed.Cells) != len(a.Cells) || e != api.OK {
			t.Fatalf("Transpose(%v): %v, error %d", a, transposed, e)
		}
		for i, x := range a.Cells {
			if y := transposed.Cells[i%a.Cols*a.Rows+i/a.Cols]; x != y {
				t.Errorf("Transpose(%v): %v", a, transposed)
			}
		}
	}
}

func TestApply(t *testing.T) {
	r := rand.New(rand.NewSource(9))
	for _, m := range some(200) {
		for n := range 7 {
			l := column(r, n)
			got, e := matrix.Apply(m, l)
			if n != m.Cols {
				expectNone(t, "Apply", e, api.ErrShape, got)
			} else {
				expect(t, "Apply", got, e, product(m, of(n, 1, l...)).Cells, api.OK)
			}
		}
	}
	got, e := matrix.Apply(of(2, 0), nil)
	expect(t, "Apply", got, e, []api.Rat{"0", "0"}, api.OK)
}

func TestSame(t *testing.T) {
	all := append(some(60), of(0, 0), of(0, 1), of(1, 0), of(2, 1, "1", "2"), of(1, 2, "1", "2"), of(1, 2, "1", "3"))
	for _, x := range wrong {
		all = append(all, x.m)
	}
	for _, a := range all {
		for _, b := range all {
			wanted := a.Rows == b.Rows && a.Cols == b.Cols && slices.Equal(a.Cells, b.Cells)
			if matrix.Same(a, b) != wanted {
				t.Errorf("Same(%v, %v) is not %t", a, b, wanted)
			}
		}
	}
	if !matrix.Same(of(0, 3), api.Matrix{Cols: 3, Cells: []api.Rat{}}) || matrix.Same(of(1, 1, "1"), of(1, 1, "1", "1")) {
		t.Error("Same of other lists of cells")
	}
}

// All functions return the error of the first matrix that has one, then those of sizes, then those of numbers.
func TestArguments(t *testing.T) {
	good := of(2, 2, "1", "2", "3", "5")
	for _, x := range wrong {
		for _, y := range append(wrong, wrong[0]) {
			m, e := matrix.Product(x.m, y.m)
			expectNone(t, "Product", e, x.e, m)
		}
		m, e := matrix.Product(x.m, of(16, 16))
		expectNone(t, "Product", e, x.e, m)
		m, e = matrix.Product(good, x.m)
		expectNone(t, "Product", e, x.e, m)
		m, e = matrix.Transpose(x.m)
		expectNone(t, "Transpose", e, x.e, m)
		m, e = matrix.Inverse(x.m)
		expectNone(t, "Inverse", e, x.e, m)
		d, e := matrix.Determinant(x.m)
		expectNone(t, "Determinant", e, x.e, d)
		m, leads, e := matrix.Echelon(x.m)
		expectNone(t, "Echelon", e, x.e, m, leads)
		basis, e := matrix.Null(x.m)
		expectNone(t, "Null", e, x.e, basis)
		for _, l := range [][]api.Rat{nil, {"x"}, {"1", "2"}} {
			column, e := matrix.Apply(x.m, l)
			expectNone(t, "Apply", e, x.e, column)
			solution, weights, ok, e := matrix.Solve(x.m, l)
			expectNone(t, "Solve", e, x.e, solution, weights, ok)
		}
	}
	for _, x := range []struct {
		l []api.Rat
		e api.Errno
	}{{nil, api.ErrShape}, {[]api.Rat{"x"}, api.ErrShape}, {[]api.Rat{"1", "2", ""}, api.ErrShape}, {[]api.Rat{"1", ""}, api.ErrForm}, {[]api.Rat{"4/2", digits("7", 1025)}, api.ErrForm}, {[]api.Rat{digits("7", 1025), "4/2"}, api.ErrLarge}} {
		for _, m := range []api.Matrix{good, of(2, 2, "0", "1", "0", "0")} { // with zeros, numbers are looked at though they are not needed
			column, e := matrix.Apply(m, x.l)
			expectNone(t, "Apply", e, x.e, column)
			solution, weights, ok, e := matrix.Solve(m, x.l)
			expectNone(t, "Solve", e, x.e, solution, weights, ok)
		}
	}
	for _, m := range []api.Matrix{of(0, 1), of(1, 0), of(1, 2, "1", "2"), of(3, 2, "0", "0", "0", "0", "0", "0")} {
		d, e := matrix.Determinant(m)
		expectNone(t, "Determinant", e, api.ErrShape, d)
		inverse, e := matrix.Inverse(m)
		expectNone(t, "Inverse", e, api.ErrShape, inverse)
	}
	// Columns fit rows or columns, whichever the function needs.
	column, e := matrix.Apply(of(1, 2, "1", "2"), []api.Rat{"1"})
	expectNone(t, "Apply", e, api.ErrShape, column)
	solution, weights, ok, e := matrix.Solve(of(1, 2, "1", "2"), []api.Rat{"1", "2"})
	expectNone(t, "Solve", e, api.ErrShape, solution, weights, ok)
}

// Results do not change when arguments do, and arguments do not change when results do.
func TestArgumentsStay(t *testing.T) {
	cells := []api.Rat{"0", "2", "1", "3", "-1", "1/2", "4", "2", "2", "9", "9"}
	b := []api.Rat{"1", "2", "3", "9"}
	kept, column := slices.Clone(cells), slices.Clone(b)
	m := of(3, 3, cells[:9]...)
	m.Cells = cells[:9]
	var lists [][]api.Rat
	product, _ := matrix.Product(m, m)
	transposed, _ := matrix.Transpose(m)
	inverse, _ := matrix.Inverse(m)
	echelon, leads, _ := matrix.Echelon(m)
	applied, _ := matrix.Apply(m, b[:3])
	solution, _, _, _ := matrix.Solve(m, b[:3])
	_, weights, _, _ := matrix.Solve(of(3, 1, cells[1:4]...), b[:3])
	basis, _ := matrix.Null(of(1, 3, cells[1:4]...))
	matrix.Determinant(m)
	lists = append(lists, product.Cells, transposed.Cells, inverse.Cells, echelon.Cells, applied, solution, weights)
	lists = append(lists, basis...)
	if len(leads) != 3 || len(basis) != 2 || len(weights) != 3 {
		t.Fatalf("%v, %v, %v", leads, basis, weights)
	}
	for i, l := range lists {
		before := make([][]api.Rat, len(lists))
		for j := range lists {
			before[j] = slices.Clone(lists[j])
		}
		for k := range l {
			l[k] = "x"
		}
		for j := range lists {
			if j != i && !slices.Equal(lists[j], before[j]) {
				t.Errorf("results %d and %d share memory", i, j)
			}
		}
	}
	if !slices.Equal(cells, kept) || !slices.Equal(b, column) {
		t.Error("arguments are changed")
	}
}

func TestLarge(t *testing.T) {
	long := digits("7", 600)
	diagonal := of(2, 2, long, "0", "0", long)
	d, e := matrix.Determinant(diagonal)
	expectNone(t, "Determinant", e, api.ErrLarge, d)
	m, e := matrix.Product(diagonal, diagonal)
	expectNone(t, "Product", e, api.ErrLarge, m)
	column, e := matrix.Apply(diagonal, []api.Rat{"1", long})
	expectNone(t, "Apply", e, api.ErrLarge, column)
	solution, weights, ok, e := matrix.Solve(diagonal, []api.Rat{"1", "1/" + long})
	expectNone(t, "Solve", e, api.ErrLarge, solution, weights, ok)
	m, leads, e := matrix.Echelon(of(1, 2, long, "1/"+long))
	expectNone(t, "Echelon", e, api.ErrLarge, m, leads)
	basis, e := matrix.Null(of(1, 2, "1/"+long, long))
	expectNone(t, "Null", e, api.ErrLarge, basis)
	m, e = matrix.Inverse(of(2, 2, "1/"+long, "-"+long, "0", "1"))
	expectNone(t, "Inverse", e, api.ErrLarge, m)
	// These are not too long.
	m, e = matrix.Inverse(diagonal)
	expect(t, "Inverse", m, e, of(2, 2, "1/"+long, "0", "0", "1/"+long), api.OK)
	d, e = matrix.Determinant(of(2, 2, long[:500], "1", long[:500], long[:500]))
	v := value(long[:500])
	expect(t, "Determinant", d, e, text(new(big.Rat).Sub(new(big.Rat).Mul(v, v), v)), api.OK)
	if sign, _ := ratio.Sign(d); sign != 1 {
		t.Error("sign")
	}
}
