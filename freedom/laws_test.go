package freedom_test

import (
	"fmt"
	"math/big"
	"math/rand"
	"slices"
	"testing"

	"metrolab/api"
	"metrolab/freedom"
)

// displacement has three shifts and three turns.
type displacement [6]*big.Rat

// unit returns the displacement with 1 at one place.
func unit(i int) displacement {
	var d displacement
	for j := range d {
		d[j] = new(big.Rat)
	}
	d[i].SetInt64(1)
	return d
}

// moved returns how the coordinates of a point move: T + W x p.
func (d displacement) moved(p api.Spot) [3]*big.Rat {
	times := func(w *big.Rat, n int) *big.Rat { return new(big.Rat).Mul(w, big.NewRat(int64(n), 1)) }
	plus := func(t, a, b *big.Rat) *big.Rat { return new(big.Rat).Sub(new(big.Rat).Add(t, a), b) }
	return [3]*big.Rat{
		plus(d[0], times(d[4], p.Z), times(d[5], p.Y)),
		plus(d[1], times(d[5], p.X), times(d[3], p.Z)),
		plus(d[2], times(d[3], p.Y), times(d[4], p.X)),
	}
}

// kept returns the numbers that have to be 0 so that a feature remains in place.
func (d displacement) kept(f api.Feature) []*big.Rat {
	var shifts, turns []*big.Rat
	for axis, shift := range d.moved(f.At) {
		own := axis == f.Axis
		switch f.Kind {
		case api.KindPlane, api.KindSlot:
			if own {
				shifts = append(shifts, shift)
			} else {
				turns = append(turns, d[3+axis])
			}
		case api.KindHole, api.KindPin:
			if !own {
				shifts, turns = append(shifts, shift), append(turns, d[3+axis])
			}
		default:
			shifts = append(shifts, shift)
		}
	}
	return append(shifts, turns...)
}

// forms returns the coefficients of what has to be 0, column by column.
func forms(l ...api.Feature) [][]*big.Rat {
	var m [][]*big.Rat
	for _, f := range l {
		first := len(m)
		for i := range 6 {
			for j, n := range unit(i).kept(f) {
				if i == 0 {
					m = append(m, nil)
				}
				m[first+j] = append(m[first+j], n)
			}
		}
	}
	return m
}

// echelon returns the reduced echelon form of all rows at once, without rows of zeros, and the leading columns.
func echelon(m [][]*big.Rat) ([][]*big.Rat, []int) {
	var leads []int
	for col := range 6 {
		row := len(leads)
		from := slices.IndexFunc(m[row:], func(r []*big.Rat) bool { return r[col].Sign() != 0 })
		if from < 0 {
			continue
		}
		m[row], m[row+from] = m[row+from], m[row]
		pivot := new(big.Rat).Set(m[row][col])
		for j := range 6 {
			m[row][j] = new(big.Rat).Quo(m[row][j], pivot)
		}
		for i := range m {
			factor := new(big.Rat).Set(m[i][col])
			for j := 0; i != row && j < 6; j++ {
				m[i][j] = new(big.Rat).Sub(m[i][j], new(big.Rat).Mul(factor, m[row][j]))
			}
		}
		leads = append(leads, col)
	}
	return m[:len(leads)], leads
}

func rank(l ...api.Feature) int {
	_, leads := echelon(forms(l...))
	return len(leads)
}

func texts(m [][]*big.Rat) []api.Rat {
	var cells []api.Rat
	for _, row := range m {
		for _, n := range row {
			cells = append(cells, api.Rat(n.RatString()))
		}
	}
	return cells
}

func value(a api.Rat) *big.Rat {
	n, ok := new(big.Rat).SetString(string(a))
	if !ok {
		panic(a)
	}
	return n
}

// some returns a feature at one of a few places, or anywhere.
func some(random *rand.Rand) api.Feature {
	most := []int{1, 1, 3, 100000}[random.Intn(4)]
	number := func() int { return random.Intn(2*most+1) - most }
	f := of(random.Intn(api.Kinds), random.Intn(api.Axes), number(), number(), number())
	if f.Kind == api.KindBall {
		f.Axis = 0
	}
	return f
}

func list(random *rand.Rand, most int) []api.Feature {
	var l []api.Feature
	for range random.Intn(most + 1) {
		l = append(l, some(random))
		if random.Intn(3) == 0 {
			l = append(l, l[random.Intn(len(l))])
		}
	}
	return l
}

// P23.1 and P23.2: any lists are compared with what is computed by the definitions, with all forms at once.
func TestAny(t *testing.T) {
	random := rand.New(rand.NewSource(1))
	for i := range 1500 {
		l := list(random, 4)
		if i%10 == 0 {
			l = list(random, 16)
		}
		f := some(random)
		what := fmt.Sprintf("%+v", l)
		m, e := freedom.Forms(f)
		expect(t, fmt.Sprintf("Forms %+v", f), results(m, e), results(api.Matrix{Rows: len(forms(f)), Cols: 6, Cells: texts(forms(f))}, api.OK))
		rows, leads := echelon(forms(l...))
		stopped, e := freedom.Stopped(l)
		expect(t, "Stopped "+what, results(stopped, e), results(api.Matrix{Rows: len(rows), Cols: 6, Cells: texts(rows)}, api.OK))
		n, e := freedom.Rank(l)
		expect(t, "Rank "+what, results(n, e), results(len(rows), api.OK))
		var basis [][]api.Rat
		for col := range 6 {
			if slices.Contains(leads, col) {
				continue
			}
			free := unit(col)
			for i, lead := range leads {
				free[lead].Neg(rows[i][col])
			}
			basis = append(basis, texts([][]*big.Rat{free[:]}))
		}
		left, e := freedom.Left(l)
		expect(t, "Left "+what, results(left, e), results(basis, api.OK))
		fixes, e := freedom.Fixes(l, f)
		expect(t, fmt.Sprintf("Fixes %+v by %s", f, what), results(fixes, e), results(rank(append(l[:len(l):len(l)], f)...) == len(rows), api.OK))
		var none []int
		for i := range l {
			if rank(l[:i]...) == rank(l[:i+1]...) {
				none = append(none, i)
			}
		}
		idle, e := freedom.Idle(l)
		expect(t, "Idle "+what, results(idle, e), results(none, api.OK))
	}
}

// P23.3: what is taken away and what is left are six together, and what is left moves no feature along its bounded axes.
func TestLeft(t *testing.T) {
	random := rand.New(rand.NewSource(2))
	for range 1000 {
		l := list(random, 5)
		what := fmt.Sprintf("%+v", l)
		n, _ := freedom.Rank(l)
		left, e := freedom.Left(l)
		expect(t, "together "+what, results(n+len(left), e), results(6, api.OK))
		for _, column := range left {
			var d displacement
			for i, a := range column {
				d[i] = value(a)
			}
			for _, f := range l {
				for _, moved := range d.kept(f) {
					if moved.Sign() != 0 {
						t.Errorf("%s is moved by %v", what, column)
					}
				}
			}
		}
	}
}

// P23.3: each feature is fixed by itself, and more datum features fix no less.
func TestMore(t *testing.T) {
	random := rand.New(rand.NewSource(3))
	count := 0
	for range 1000 {
		l, m, f := list(random, 3), list(random, 3), some(random)
		itself, e := freedom.Fixes(append(l[:len(l):len(l)], f), f)
		expect(t, fmt.Sprintf("%+v by itself and %+v", f, l), results(itself, e), results(true, api.OK))
		less, e := freedom.Fixes(l, f)
		more, g := freedom.Fixes(slices.Concat(m, l), f)
		if less {
			count++
			expect(t, fmt.Sprintf("%+v by %+v and %+v", f, m, l), results(more, e, g), results(true, api.OK, api.OK))
		}
	}
	if count < 100 {
		t.Error(count)
	}
}

// P23.3: three planes square to the three axes leave nothing, wherever they are.
func TestPlanes(t *testing.T) {
	random := rand.New(rand.NewSource(4))
	for range 300 {
		var l []api.Feature
		for _, axis := range random.Perm(3) {
			l = append(l, plane(axis, random.Intn(200001)-100000, random.Intn(200001)-100000, random.Intn(200001)-100000))
		}
		left, e := freedom.Left(l)
		idle, g := freedom.Idle(l)
		expect(t, fmt.Sprintf("%+v", l), results(left, e, idle, g), results([]int{}, api.OK, []int{}, api.OK))
	}
}

// Arguments stay as they are, with their spare capacity, and results share no memory with anything.
func TestMemory(t *testing.T) {
	all := []api.Feature{plane(2, 0, 0, 5), plane(2, 1, 1, 5), hole(2, 2, 4, 0), hole(2, 9, 4, 0), ball(1, 2, 3)}
	before := slices.Clone(all)
	l := all[:2]
	freedom.Fixes(l, hole(0, 1, 2, 3))
	freedom.Idle(l)
	freedom.Rank(l)
	stopped, _ := freedom.Stopped(l)
	left, _ := freedom.Left(l)
	kept := fmt.Sprint(left)
	for i := range stopped.Cells {
		stopped.Cells[i] = "x"
	}
	expect(t, "arguments", results(all, left), results(before, kept))
	for i := range left {
		left[i] = append(left[i][:6], "y")
		left[i][0] = "x"
	}
	left, _ = freedom.Left(l)
	expect(t, "again", results(left), results(kept))
}
