package matrix

import (
	"metrolab/api"
	"metrolab/ratio"
	"metrolab/reckon"
)

// table has rows that are brought to the reduced echelon form; what stands behind the columns of a matrix goes along.
type table struct {
	reckon.Keeper
	rows   [][]api.Rat
	leads  []int     // the columns of the leading entries
	pivots []api.Rat // what the leading entries were before they became 1
	turned bool      // the rows have been swapped an odd number of times
}

// reduced returns the table of the reduced echelon form of a matrix.
func reduced(m api.Matrix) *table {
	t := &table{rows: rowsOf(m)}
	t.reduce(m.Cols)
	return t
}

// traced returns the same with a unit matrix beside it, in which the rows become the weights with which they were put together.
// Numbers beside the matrix do not go along themselves: they may be long, and are weighted only once, at the end.
func traced(m api.Matrix) *table {
	t := &table{rows: rowsOf(m)}
	for i := range t.rows {
		for j := range t.rows {
			t.rows[i] = append(t.rows[i], unitEntry(i, j))
		}
	}
	t.reduce(m.Cols)
	return t
}

// reduce brings the first columns to the reduced echelon form.
func (t *table) reduce(cols int) {
	steps := []func(row, col int){t.raise, t.divide, t.clear}
	for col := range cols {
		row := len(t.leads)
		if t.from(row, col) == len(t.rows) {
			continue
		}
		for _, step := range steps {
			step(row, col)
		}
		t.leads = append(t.leads, col)
	}
}

// from returns the first row, from one on, that does not have 0 in a column, or the number of rows.
func (t *table) from(row, col int) int {
	for row < len(t.rows) && t.rows[row][col] == "0" {
		row++
	}
	return row
}

// raise swaps a row with the first one, from it on, that does not have 0 in a column.
func (t *table) raise(row, col int) {
	if from := t.from(row, col); from != row {
		t.rows[row], t.rows[from] = t.rows[from], t.rows[row]
		t.turned = !t.turned
	}
}

// divide divides a row by its entry in a column.
func (t *table) divide(row, col int) {
	pivot := t.rows[row][col]
	factor := t.Of(ratio.Div, "1", pivot)
	combine(t.rows[row], t.rows[row], func(x, _ api.Rat) api.Rat { return t.Product(x, factor) })
	t.pivots = append(t.pivots, pivot)
}

// clear takes from each other row as many times a row with 1 in a column that 0 is left there.
func (t *table) clear(row, col int) {
	for i, other := range t.rows {
		if factor := other[col]; i != row && factor != "0" {
			combine(other, t.rows[row], func(x, y api.Rat) api.Rat { return t.Difference(x, t.Product(factor, y)) })
		}
	}
}

// combine changes the numbers of a row by an operation with those of another row, where these are not 0.
func combine(row, other []api.Rat, operation func(x, y api.Rat) api.Rat) {
	for i, y := range other {
		if y != "0" {
			row[i] = operation(row[i], y)
		}
	}
}

// part returns a matrix of all rows, from a column on.
func (t *table) part(col, cols int) api.Matrix {
	return build(len(t.rows), cols, func(i, j int) api.Rat { return t.rows[i][col+j] })
}

// weights returns the weights with which the rows were put together, of a table of a matrix with so many columns.
func (t *table) weights(cols int) [][]api.Rat {
	var l [][]api.Rat
	for _, row := range t.rows {
		l = append(l, row[cols:])
	}
	return l
}
