package matrix

import (
	"slices"

	"metrolab/api"
	"metrolab/ratio"
)

// checkSquare returns the error of a matrix that should have as many rows as columns.
func checkSquare(m api.Matrix) api.Errno {
	if e := Check(m); e != api.OK {
		return e
	}
	if m.Rows != m.Cols {
		return api.ErrShape
	}
	return api.OK
}

// Determinant returns the determinant.
func Determinant(m api.Matrix) (api.Rat, api.Errno) {
	if e := checkSquare(m); e != api.OK {
		return "", e
	}
	t := reduced(m)
	product := api.Rat("1")
	if t.turned {
		product = "-1"
	}
	for _, pivot := range t.pivots {
		product = t.Product(product, pivot)
	}
	switch {
	case t.Errno != api.OK:
		return "", t.Errno
	case len(t.leads) < m.Rows:
		return "0", api.OK
	}
	return product, api.OK
}

// Echelon returns the reduced echelon form, and the columns with its leading entries.
func Echelon(m api.Matrix) (api.Matrix, []int, api.Errno) {
	if e := Check(m); e != api.OK {
		return api.Matrix{}, nil, e
	}
	t := reduced(m)
	if t.Errno != api.OK {
		return api.Matrix{}, nil, t.Errno
	}
	return t.part(0, m.Cols), t.leads, api.OK
}

// Null returns the basis of the columns that a matrix takes to 0.
func Null(m api.Matrix) ([][]api.Rat, api.Errno) {
	if e := Check(m); e != api.OK {
		return nil, e
	}
	t := reduced(m)
	var basis [][]api.Rat
	for free := range m.Cols {
		if slices.Contains(t.leads, free) {
			continue
		}
		column := zeros(m.Cols)
		column[free] = "1"
		for i, lead := range t.leads {
			column[lead] = t.Of(ratio.Sub, "0", t.rows[i][free])
		}
		basis = append(basis, column)
	}
	if t.Errno != api.OK {
		return nil, t.Errno
	}
	return basis, api.OK
}

func zeros(n int) []api.Rat { return slices.Repeat([]api.Rat{"0"}, n) }

// Solve returns a solution of m x = b, or weights of the rows that contradict.
func Solve(m api.Matrix, b []api.Rat) ([]api.Rat, []api.Rat, bool, api.Errno) {
	if e := checkColumn(m, b, m.Rows); e != api.OK {
		return nil, nil, false, e
	}
	t := traced(m)
	weights := t.weights(m.Cols)
	values := apply(&t.Keeper, weights, b)
	if t.Errno != api.OK {
		return nil, nil, false, t.Errno
	}
	rank := len(t.leads)
	for i, value := range values[rank:] {
		if value != "0" {
			return nil, weights[rank+i], false, api.OK
		}
	}
	solution := zeros(m.Cols)
	for i, lead := range t.leads {
		solution[lead] = values[i]
	}
	return solution, nil, true, api.OK
}

// Inverse returns the inverse.
func Inverse(m api.Matrix) (api.Matrix, api.Errno) {
	if e := checkSquare(m); e != api.OK {
		return api.Matrix{}, e
	}
	t := traced(m)
	switch {
	case t.Errno != api.OK:
		return api.Matrix{}, t.Errno
	case len(t.leads) < m.Rows:
		return api.Matrix{}, api.ErrState
	}
	return t.part(m.Cols, m.Cols), api.OK
}
