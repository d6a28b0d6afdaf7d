package matrix_test

import (
	"math/big"
	"math/rand"
	"slices"
	"testing"

	"metrolab/api"
	"metrolab/matrix"
)

// laplace develops the determinant by its first row.
func laplace(rows [][]*big.Rat) *big.Rat {
	if len(rows) == 0 {
		return big.NewRat(1, 1)
	}
	sum := new(big.Rat)
	for k, x := range rows[0] {
		var rest [][]*big.Rat
		for _, row := range rows[1:] {
			rest = append(rest, slices.Delete(slices.Clone(row), k, k+1))
		}
		term := new(big.Rat).Mul(x, laplace(rest))
		if k%2 == 1 {
			term.Neg(term)
		}
		sum.Add(sum, term)
	}
	return sum
}

func rowsOf(m api.Matrix) [][]*big.Rat {
	rows := make([][]*big.Rat, m.Rows)
	for i, x := range m.Cells {
		rows[i/m.Cols] = append(rows[i/m.Cols], value(x))
	}
	return rows
}

// rank counts the rows that are not combinations of those before them.
func rank(rows [][]*big.Rat) int {
	n := 0
	var kept [][]*big.Rat
	for _, row := range rows {
		for _, k := range kept {
			lead := leading(k)
			factor := new(big.Rat).Quo(row[lead], k[lead])
			for j := range row {
				row[j] = new(big.Rat).Sub(row[j], new(big.Rat).Mul(factor, k[j]))
			}
		}
		if leading(row) < len(row) {
			kept = append(kept, row)
			n++
		}
	}
	return n
}

func leading(row []*big.Rat) int {
	k := slices.IndexFunc(row, func(x *big.Rat) bool { return x.Sign() != 0 })
	if k < 0 {
		return len(row)
	}
	return k
}

// beside puts a column behind a matrix.
func beside(m api.Matrix, b []api.Rat) api.Matrix {
	wide := api.Matrix{Rows: m.Rows, Cols: m.Cols + 1}
	for i := range m.Rows {
		wide.Cells = append(append(wide.Cells, m.Cells[i*m.Cols:(i+1)*m.Cols]...), b[i])
	}
	return wide
}

func sizes(n, least, most int) []int {
	var l []int
	for i := range n {
		l = append(l, least+i%(most-least+1))
	}
	return l
}

// P4.2

func TestDeterminant(t *testing.T) {
	r := rand.New(rand.NewSource(10))
	pool := []api.Rat{"0", "0", "1", "-1", "2/3", "-5", "7/2", "100", "-1/90"}
	for _, n := range sizes(400, 0, 5) {
		m := random(r, n, n, func() api.Rat { return pool[r.Intn(len(pool))] })
		d, e := matrix.Determinant(m)
		expect(t, "Determinant", d, e, text(laplace(rowsOf(m))), api.OK)
		inverse, e := matrix.Inverse(m)
		if d == "0" {
			expectNone(t, "Inverse", e, api.ErrState, inverse)
			continue
		}
		unit, _ := matrix.Unit(n)
		expect(t, "inverse from the right", product(m, inverse), e, unit, api.OK)
		expect(t, "inverse from the left", product(inverse, m), e, unit, api.OK)
	}
}

func TestEchelon(t *testing.T) {
	for _, m := range some(600) {
		form, leads, e := matrix.Echelon(m)
		if form.Rows != m.Rows || form.Cols != m.Cols || matrix.Check(form) != api.OK || e != api.OK {
			t.Fatalf("Echelon(%v): %v, error %d", m, form, e)
		}
		for i := range form.Rows {
			row := rowsOf(form)[i]
			if i >= len(leads) {
				if leading(row) < form.Cols {
					t.Errorf("Echelon(%v): %v is not 0 in row %d", m, form, i)
				}
				continue
			}
			if leading(row) != leads[i] || i > 0 && leads[i] <= leads[i-1] {
				t.Fatalf("Echelon(%v): %v with %v", m, form, leads)
			}
			for j := range form.Rows {
				if x := form.Cells[j*form.Cols+leads[i]]; (x == "1") != (j == i) || (x == "0") != (j != i) {
					t.Errorf("Echelon(%v): %v has %s in row %d", m, form, x, j)
				}
			}
		}
		// Each row is put together from those of the form, by its entries in their columns, and there are no more of these.
		for _, row := range rowsOf(m) {
			for i, lead := range leads {
				factor := row[lead]
				for j, x := range rowsOf(form)[i] {
					row[j] = new(big.Rat).Sub(row[j], new(big.Rat).Mul(factor, x))
				}
			}
			if leading(row) < m.Cols {
				t.Errorf("Echelon(%v): %v does not span a row", m, form)
			}
		}
		if n := rank(rowsOf(m)); n != len(leads) {
			t.Errorf("Echelon(%v): rank %d instead of %d", m, len(leads), n)
		}
		again, more, e := matrix.Echelon(form)
		expect(t, "Echelon again", again, e, form, api.OK)
		expect(t, "Echelon again", more, e, leads, api.OK)
		expectBasis(t, m, form, leads)
	}
}

// expectBasis checks the basis of the null space of a matrix with a form.
func expectBasis(t *testing.T, m, form api.Matrix, leads []int) {
	t.Helper()
	basis, e := matrix.Null(m)
	var wanted [][]api.Rat
	for k := range m.Cols {
		if slices.Contains(leads, k) {
			continue
		}
		column := slices.Repeat([]api.Rat{"0"}, m.Cols)
		column[k] = "1"
		for i, lead := range leads {
			column[lead] = text(new(big.Rat).Neg(value(form.Cells[i*m.Cols+k])))
		}
		wanted = append(wanted, column)
		zeros := slices.Repeat([]api.Rat{"0"}, m.Rows)
		expect(t, "Null", product(m, of(m.Cols, 1, column...)).Cells, e, zeros, api.OK)
	}
	expect(t, "Null", basis, e, wanted, api.OK)
}

// expectSolved checks a solution, or the weights that contradict, and returns them.
func expectSolved(t *testing.T, m api.Matrix, b []api.Rat) ([]api.Rat, []api.Rat) {
	t.Helper()
	solution, weights, ok, e := matrix.Solve(m, b)
	if wanted := rank(rowsOf(m)) == rank(rowsOf(beside(m, b))); ok != wanted || e != api.OK {
		t.Fatalf("Solve(%v, %s): %t, error %d instead of %t", m, b, ok, e, wanted)
	}
	if !ok {
		if len(solution) > 0 || len(weights) != m.Rows {
			t.Fatalf("Solve(%v, %s): %s, %s", m, b, solution, weights)
		}
		sums := product(of(1, m.Rows, weights...), beside(m, b)).Cells
		if last := len(sums) - 1; sums[last] == "0" || slices.ContainsFunc(sums[:last], func(x api.Rat) bool { return x != "0" }) {
			t.Errorf("Solve(%v, %s): weights %s make %s", m, b, weights, sums)
		}
		if slices.ContainsFunc(weights, func(x api.Rat) bool { return len(x) > 400 }) {
			t.Errorf("Solve(%v, %s): long weights %s", m, b, weights)
		}
		return nil, weights
	}
	if len(weights) > 0 || len(solution) != m.Cols {
		t.Fatalf("Solve(%v, %s): %s, %s", m, b, solution, weights)
	}
	expect(t, "solved", product(m, of(m.Cols, 1, solution...)).Cells, e, b, api.OK)
	_, leads, _ := matrix.Echelon(m)
	for k, x := range solution {
		if x != "0" && !slices.Contains(leads, k) {
			t.Errorf("Solve(%v, %s): %s has %s at %d", m, b, solution, x, k)
		}
	}
	return solution, nil
}

func TestSolve(t *testing.T) {
	r := rand.New(rand.NewSource(11))
	solved, contradicted := 0, 0
	for _, m := range some(800) {
		solution, weights := expectSolved(t, m, column(r, m.Rows))
		solved, contradicted = solved+min(len(solution), 1), contradicted+min(len(weights), 1)
		b, _ := matrix.Apply(m, column(r, m.Cols))
		if _, weights := expectSolved(t, m, b); weights != nil {
			t.Errorf("Solve(%v, %s) contradicts", m, b)
		}
	}
	if solved < 100 || contradicted < 100 {
		t.Errorf("%d are solved, %d contradict", solved, contradicted)
	}
}

func TestExamples(t *testing.T) {
	m := of(2, 2, "1", "2", "3", "5")
	d, e := matrix.Determinant(m)
	expect(t, "Determinant", d, e, api.Rat("-1"), api.OK)
	inverse, e := matrix.Inverse(m)
	expect(t, "Inverse", inverse, e, of(2, 2, "-5", "2", "3", "-1"), api.OK)
	m = of(2, 3, "2", "4", "6", "1", "2", "4")
	form, leads, e := matrix.Echelon(m)
	expect(t, "Echelon", form, e, of(2, 3, "1", "2", "0", "0", "0", "1"), api.OK)
	expect(t, "Echelon", leads, e, []int{0, 2}, api.OK)
	basis, e := matrix.Null(m)
	expect(t, "Null", basis, e, [][]api.Rat{{"-2", "1", "0"}}, api.OK)
	_, weights := expectSolved(t, of(2, 2, "1", "2", "2", "4"), []api.Rat{"1", "3"})
	expect(t, "Solve", weights, api.OK, []api.Rat{"-2", "1"}, api.OK)
	form, leads, e = matrix.Echelon(of(0, 3))
	expect(t, "Echelon", form, e, of(0, 3), api.OK)
	expect(t, "Echelon", leads, e, []int(nil), api.OK)
	basis, e = matrix.Null(of(0, 2))
	expect(t, "Null", basis, e, [][]api.Rat{{"1", "0"}, {"0", "1"}}, api.OK)
	inverse, e = matrix.Inverse(of(0, 0))
	expect(t, "Inverse", inverse, e, of(0, 0), api.OK)
}

// The greatest sides are permitted.
func TestGreatest(t *testing.T) {
	r := rand.New(rand.NewSource(12))
	n := api.MaxSide
	m := random(r, n, n, func() api.Rat { return text(big.NewRat(r.Int63n(199)-99, 1)) })
	inverse, e := matrix.Inverse(m)
	unit, _ := matrix.Unit(n)
	expect(t, "inverse", product(m, inverse), e, unit, api.OK)
	l := column(r, n)
	b, e := matrix.Apply(m, l)
	expect(t, "Apply", b, e, product(m, of(n, 1, l...)).Cells, api.OK)
	solution, _ := expectSolved(t, m, b)
	expect(t, "Solve", solution, api.OK, l, api.OK)
	copy(m.Cells[15*n:], m.Cells[:n])
	expectSolved(t, m, append(l[:15:15], "77"))
	d, e := matrix.Determinant(m)
	expect(t, "Determinant", d, e, api.Rat("0"), api.OK)
}

// longest are the kinds of entries with 10 characters that make the longest numbers.
func longest(r *rand.Rand, kind int) api.Rat {
	for {
		v := new(big.Rat)
		switch kind {
		case 0:
			v.SetInt64(1e9 + r.Int63n(9e9))
		case 1:
			v.SetFrac64(1+r.Int63n(9), 1e7+r.Int63n(9e7))
		case 2:
			v.SetFrac64(1e3+r.Int63n(9e3), 1e4+r.Int63n(9e4))
		default:
			v.SetFrac64(-1-r.Int63n(9), 1e6+r.Int63n(9e6))
		}
		if len(text(v)) == 10 {
			return text(v)
		}
	}
}

// longMatrix returns a matrix with entries of 10 characters; of a mixed kind, there are integers on the diagonal.
func longMatrix(r *rand.Rand, rows, cols, kind int) api.Matrix {
	m := random(r, rows, cols, func() api.Rat {
		if kind > 3 {
			return longest(r, 1)
		}
		return longest(r, kind)
	})
	for i := range min(rows, cols) {
		if kind > 3 {
			m.Cells[i*cols+i] = longest(r, 0)
		}
	}
	return m
}

// longColumn returns numbers of 24 characters.
func longColumn(r *rand.Rand, n, kind int) []api.Rat {
	var l []api.Rat
	for len(l) < n {
		den := new(big.Int).Exp(big.NewInt(10), big.NewInt(21), nil)
		den.Add(den, new(big.Int).Rand(r, new(big.Int).Mul(big.NewInt(9), den)))
		v := new(big.Rat).SetFrac(big.NewInt(1+r.Int63n(9)), den)
		if kind == 1 || kind == 2 && len(l)%2 == 0 {
			v.SetInt(den.Mul(den, big.NewInt(100)))
		}
		if len(text(v)) == 24 {
			l = append(l, text(v))
		}
	}
	return l
}

// Nothing is too long of the matrices that the document names, nor of what has been made of them.
func TestLongest(t *testing.T) {
	r := rand.New(rand.NewSource(13))
	for i := range 60 {
		m, other := longMatrix(r, 5, 5, i%5), longMatrix(r, 5, 5, 4)
		b := longColumn(r, 5, i%3)
		if d, e := matrix.Determinant(m); i < 10 {
			expect(t, "Determinant", d, e, text(laplace(rowsOf(m))), api.OK)
		}
		inverse, e := matrix.Inverse(m)
		unit, _ := matrix.Unit(5)
		back, f := matrix.Product(m, inverse)
		expect(t, "inverse from the right", back, e, unit, f)
		back, f = matrix.Product(inverse, m)
		expect(t, "inverse from the left", back, e, unit, f)
		solution, _ := expectSolved(t, m, b)
		applied, e := matrix.Apply(m, solution)
		expect(t, "Apply", applied, e, b, api.OK)
		again, _ := expectSolved(t, other, solution)
		applied, e = matrix.Apply(other, again)
		expect(t, "Apply", applied, e, solution, api.OK)
		applied, e = matrix.Apply(m, b)
		expect(t, "Apply", applied, e, product(m, of(5, 1, b...)).Cells, api.OK)
		solution, _ = expectSolved(t, m, applied)
		expect(t, "Solve", solution, e, b, api.OK)
		solution, _ = expectSolved(t, other, applied)
		applied, e = matrix.Apply(other, solution)
		if e != api.OK {
			t.Errorf("Apply: error %d", e)
		}
	}
}

func TestLongestContradictions(t *testing.T) {
	r := rand.New(rand.NewSource(14))
	for i := range 100 {
		m := longMatrix(r, 5, 1+i%4, i%5)
		if i%3 == 0 { // a row twice
			m = longMatrix(r, 5, 5, i%5)
			m.Cells[4] = "0"
			copy(m.Cells[20:], m.Cells[5*(i%4):5*(i%4)+5])
		}
		_, weights := expectSolved(t, m, longColumn(r, 5, i%3))
		if weights == nil {
			t.Fatal("no contradiction")
		}
		transposed, _ := matrix.Transpose(m)
		sums, e := matrix.Apply(transposed, weights)
		expect(t, "Apply", sums, e, slices.Repeat([]api.Rat{"0"}, m.Cols), api.OK)
		expectSolved(t, transposed, sums)
		expectSolved(t, longMatrix(r, 5, 5, 4), weights)
		form, leads, e := matrix.Echelon(m)
		basis, f := matrix.Null(m)
		if len(leads)+len(basis) != m.Cols || matrix.Check(form) != api.OK || e != api.OK || f != api.OK {
			t.Errorf("rank %d, null space %d, errors %d, %d", len(leads), len(basis), e, f)
		}
	}
}

// P4.3

func TestLaws(t *testing.T) {
	r := rand.New(rand.NewSource(15))
	pool := []api.Rat{"1/999", "-1/98", "997/2", "-9998", "99999", "12/83", "0", "-7/11", "1", "88/89"}
	entry := func() api.Rat { return pool[r.Intn(len(pool))] }
	for _, n := range sizes(200, 0, 4) {
		a, b := random(r, n, n, entry), random(r, n, n, entry)
		both, e := matrix.Product(a, b)
		first, f := matrix.Determinant(a)
		second, g := matrix.Determinant(b)
		whole, h := matrix.Determinant(both)
		expect(t, "determinant of a product", whole, h, text(new(big.Rat).Mul(value(first), value(second))), api.OK)
		inverse, i := matrix.Inverse(both)
		wanted := api.OK
		if whole == "0" {
			wanted = api.ErrState
		}
		if e != api.OK || f != api.OK || g != api.OK || i != wanted {
			t.Fatalf("errors %d %d %d %d", e, f, g, i)
		}
		if whole != "0" {
			unit, _ := matrix.Unit(n)
			back, e := matrix.Product(inverse, both)
			expect(t, "inverse of a product", back, e, unit, api.OK)
		}
		expectSolved(t, both, column(r, n))
		_, leads, e := matrix.Echelon(both)
		basis, f := matrix.Null(both)
		if len(leads)+len(basis) != n || e != api.OK || f != api.OK {
			t.Errorf("rank %d and null space %d of %v", len(leads), len(basis), both)
		}
	}
}
