package program

import (
	"iter"
	"slices"

	"metrolab/api"
	"metrolab/reckon"
)

// none is the place of a row or a column that is not there.
const none = -1

// table tells the variables of its rows as sums of those of its columns, each times a number, and a constant.
// Variables are numbered: first the slacks of the bounds (what is left up to Most, so none may be negative), then the goal, then the unknowns.
// All numbers are integers over one denominator. They are minors of the first table, so a pivot divides them without a remainder,
// and none is longer than the answers make necessary.
type table struct {
	reckon.Keeper
	bounds  int         // how many there are; the goal is the variable, and the row, with this number
	inRow   []int       // the variables of the rows
	inCol   []int       // those of the columns; they are 0 at the point of the table
	rows    [][]api.Int // the constant is the last number of a row
	den     api.Int     // positive
	factors []api.Int   // by which the bounds and the goal have been multiplied
}

// newTable returns the table of bounds and a goal in which as many unknowns as possible have been exchanged for slacks.
func newTable(l []api.Bound, goal []api.Rat) *table {
	t := &table{bounds: len(l), den: "1"}
	for _, b := range l {
		row := t.add(slices.Concat(b.Row, []api.Rat{b.Most}))
		t.negate(row[:len(goal)]) // the slack is what is left when the products are taken away
	}
	t.add(slices.Concat(goal, []api.Rat{"0"}))
	for j := range goal {
		t.inCol = append(t.inCol, t.bounds+1+j)
	}
	for col := range t.inCol {
		for row := range t.slacks(t.inRow) {
			if t.rows[row][col] != "0" {
				t.pivot(row, col)
				break
			}
		}
	}
	return t
}

// add adds a row for the next variable, multiplied by the least factor that makes its numbers integers, and returns it.
func (t *table) add(l []api.Rat) []api.Int {
	row, factor := t.Common(l)
	t.inRow = append(t.inRow, len(t.rows))
	t.rows = append(t.rows, row)
	t.factors = append(t.factors, factor)
	return row
}

func (t *table) negate(l []api.Int) {
	for i, a := range l {
		l[i] = t.Minus("0", a)
	}
}

// slacks yields where among the variables of the rows, or of the columns, slacks stand, in the order of their bounds.
func (t *table) slacks(variables []int) iter.Seq[int] {
	return func(yield func(int) bool) {
		for bound := range t.bounds {
			if place := slices.Index(variables, bound); place != none && !yield(place) {
				return
			}
		}
	}
}

// pivot exchanges the variable of a row for that of a column, whose number there is not 0.
func (t *table) pivot(row, col int) {
	own, den := t.rows[row], t.den
	if t.Sign(own[col]) < 0 {
		t.negate(own)
		den = t.Minus("0", den)
	}
	pivot := own[col]
	own[col] = t.Minus(pivot, den) // so that one rule gives what the others have in this column, too
	for i, other := range t.rows {
		if i != row {
			t.Combine(other, own, col, pivot, t.den)
		}
	}
	t.negate(own)
	own[col] = den
	t.den = pivot
	t.inRow[row], t.inCol[col] = t.inCol[col], t.inRow[row]
}

// work pivots where choose says, until there is no such row or no such column, and returns what there is.
func (t *table) work(choose func() (row, col int)) (row, col int) {
	for {
		row, col = choose()
		if row == none || col == none || t.Errno != api.OK {
			return row, col
		}
		t.pivot(row, col)
	}
}

// repair pivots until no slack is negative and returns none, or a row that says that its slack is negative anyway.
// It and improve choose the first variables that will do, so that no table comes twice (Bland's rule).
func (t *table) repair() int {
	row, _ := t.work(func() (int, int) {
		row := t.negative()
		if row == none {
			return none, none
		}
		return row, t.rising(row)
	})
	return row
}

// improve pivots until the goal cannot be greater, while no slack becomes negative; it reports whether there is an end.
func (t *table) improve() bool {
	_, col := t.work(func() (int, int) {
		col := t.rising(t.bounds)
		if col == none {
			return none, none
		}
		return t.tightest(col), col
	})
	// An unknown that is still in a column is in no slack, so that nothing limits it.
	for i, variable := range t.inCol {
		if variable > t.bounds && t.rows[t.bounds][i] != "0" {
			return false
		}
	}
	return col == none
}

// negative returns the first row whose slack is negative.
func (t *table) negative() int {
	for row := range t.slacks(t.inRow) {
		if t.Sign(t.constant(row)) < 0 {
			return row
		}
	}
	return none
}

func (t *table) constant(row int) api.Int { return t.rows[row][len(t.inCol)] }

// rising returns the first column whose slack makes the variable of a row greater.
func (t *table) rising(row int) int {
	for col := range t.slacks(t.inCol) {
		if t.Sign(t.rows[row][col]) > 0 {
			return col
		}
	}
	return none
}

// tightest returns the first row of those whose slacks are the first ones to be 0 when that of a column grows.
func (t *table) tightest(col int) int {
	best := none
	for row := range t.slacks(t.inRow) {
		if t.Sign(t.rows[row][col]) < 0 && (best == none || t.sooner(row, best, col)) {
			best = row
		}
	}
	return best
}

// sooner reports whether a row allows less of a column than another row.
func (t *table) sooner(row, other, col int) bool {
	mine, its := t.Times(t.constant(row), t.rows[other][col]), t.Times(t.constant(other), t.rows[row][col])
	return t.Sign(t.Minus(mine, its)) > 0
}

// point returns the unknowns where the variables of the columns are 0.
func (t *table) point() []api.Rat {
	point := zeros(len(t.inCol))
	for row, variable := range t.inRow {
		if unknown := variable - t.bounds - 1; unknown >= 0 {
			point[unknown] = t.Quotient(t.constant(row), t.den)
		}
	}
	return point
}

// value returns the goal there.
func (t *table) value() api.Rat {
	return t.Quotient(t.constant(t.bounds), t.Times(t.den, t.factors[t.bounds]))
}

// weights returns how much of each slack is taken away from the constant in a row of a slack or of the goal.
func (t *table) weights(row int) []api.Rat {
	weights := zeros(t.bounds)
	den := t.Times(t.den, t.factors[t.inRow[row]])
	for col := range t.slacks(t.inCol) {
		bound := t.inCol[col]
		num := t.Times(t.rows[row][col], t.factors[bound])
		weights[bound] = t.Quotient(t.Minus("0", num), den)
	}
	return weights
}

// contradiction returns the weights that follow from a row that says that its slack is negative.
func (t *table) contradiction(row int) []api.Rat {
	weights := t.weights(row)
	weights[t.inRow[row]] = "1"
	return weights
}
