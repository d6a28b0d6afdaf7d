package enclose_test

import (
	"math/big"
	"math/rand"
	"slices"

	"metrolab/api"
	"metrolab/enclose"
)

// shape is a circle or a sphere, with the functions of package enclose for lists of coordinates.
type shape struct {
	name   string
	size   int // the number of coordinates
	around func(l [][]int) ([]api.Rat, api.Rat, api.Errno)
	least  func(l [][]int) ([]api.Rat, api.Rat, []int, api.Errno)
	verify func(l [][]int, center []api.Rat, square api.Rat, support []int) (bool, api.Errno)
}

func points(l [][]int) []api.Point {
	var found []api.Point
	for _, p := range l {
		found = append(found, api.Point{X: p[0], Y: p[1]})
	}
	return found
}

func spots(l [][]int) []api.Spot {
	var found []api.Spot
	for _, p := range l {
		found = append(found, api.Spot{X: p[0], Y: p[1], Z: p[2]})
	}
	return found
}

func circle() shape {
	list := func(p api.Place) []api.Rat { return []api.Rat{p.X, p.Y} }
	return shape{"circle", 2,
		func(l [][]int) ([]api.Rat, api.Rat, api.Errno) {
			c, square, e := enclose.Around(points(l))
			return list(c), square, e
		},
		func(l [][]int) ([]api.Rat, api.Rat, []int, api.Errno) {
			c, square, support, e := enclose.Circle(points(l))
			return list(c), square, support, e
		},
		func(l [][]int, center []api.Rat, square api.Rat, support []int) (bool, api.Errno) {
			return enclose.VerifyCircle(points(l), api.Place{X: center[0], Y: center[1]}, square, support)
		},
	}
}

func sphere() shape {
	return shape{"sphere", 3,
		func(l [][]int) ([]api.Rat, api.Rat, api.Errno) {
			c, square, e := enclose.AroundSpots(spots(l))
			return c[:], square, e
		},
		func(l [][]int) ([]api.Rat, api.Rat, []int, api.Errno) {
			c, square, support, e := enclose.Sphere(spots(l))
			return c[:], square, support, e
		},
		func(l [][]int, center []api.Rat, square api.Rat, support []int) (bool, api.Errno) {
			return enclose.VerifySphere(spots(l), [3]api.Rat(center), square, support)
		},
	}
}

type row = []*big.Rat

func number(n int) *big.Rat { return big.NewRat(int64(n), 1) }

func value(a api.Rat) *big.Rat {
	v, ok := new(big.Rat).SetString(string(a))
	if !ok {
		panic("no number: " + a)
	}
	return v
}

func text(v *big.Rat) api.Rat { return api.Rat(v.RatString()) }

func add(sum *big.Rat, factors ...*big.Rat) {
	product := number(1)
	for _, f := range factors {
		product.Mul(product, f)
	}
	sum.Add(sum, product)
}

// solve returns the only solution of as many equations as unknowns, with the right sides behind the rows.
func solve(rows []row) (row, bool) {
	for i := range rows {
		lead := slices.IndexFunc(rows[i:], func(r row) bool { return r[i].Sign() != 0 })
		if lead < 0 {
			return nil, false
		}
		rows[i], rows[i+lead] = rows[i+lead], rows[i]
		for j, r := range rows {
			factor := new(big.Rat).Quo(r[i], rows[i][i])
			for k := range r {
				if j != i {
					add(r[k], number(-1), factor, rows[i][k])
				}
			}
		}
	}
	var found row
	for i, r := range rows {
		found = append(found, new(big.Rat).Quo(r[len(rows)], r[i]))
	}
	return found, true
}

// model is the circle or the sphere around points, with the weights of the points in its center.
type model struct {
	center  row
	square  *big.Rat
	weights row
}

// around looks for weights that add up to 1, with which the center is equally far from all points. There is just one
// solution if the points are independent.
func around(l [][]int) (model, bool) {
	rows := []row{{}}
	for range len(l) + 1 {
		rows[0] = append(rows[0], number(1))
	}
	for _, p := range l[1:] {
		var r row
		for _, q := range append(l[:len(l):len(l)], nil) {
			sum := new(big.Rat)
			for i := range p {
				factor := number(p[i] - l[0][i])
				if q == nil {
					add(sum, factor, number(p[i]+l[0][i]))
				} else {
					add(sum, number(2), factor, number(q[i]))
				}
			}
			r = append(r, sum)
		}
		rows = append(rows, r)
	}
	weights, ok := solve(rows)
	if !ok {
		return model{}, false
	}
	m := model{weights: weights}
	for i := range l[0] {
		sum := new(big.Rat)
		for j, p := range l {
			add(sum, weights[j], number(p[i]))
		}
		m.center = append(m.center, sum)
	}
	m.square = distance(l[0], m.center)
	return m, true
}

// distance is the squared distance of a point from a place.
func distance(p []int, from row) *big.Rat {
	sum := new(big.Rat)
	for i, n := range p {
		d := new(big.Rat).Sub(number(n), from[i])
		add(sum, d, d)
	}
	return sum
}

func (m model) texts() []api.Rat {
	var found []api.Rat
	for _, v := range m.center {
		found = append(found, text(v))
	}
	return found
}

// supports reports whether indices are a support.
func supports(l [][]int, indices []int) (model, bool) {
	m, ok := around(chosen(l, indices))
	ok = ok && !slices.ContainsFunc(m.weights, func(w *big.Rat) bool { return w.Sign() < 0 })
	ok = ok && !slices.ContainsFunc(l, func(p []int) bool { return distance(p, m.center).Cmp(m.square) > 0 })
	return m, ok
}

func chosen(l [][]int, indices []int) [][]int {
	var found [][]int
	for _, i := range indices {
		found = append(found, l[i])
	}
	return found
}

// lists are those of up to so many of n indices in the order of supports.
func lists(n, most int) [][]int {
	var found [][]int
	for bits := 1; bits < 1<<n; bits++ {
		var indices []int
		for i := range n {
			if bits>>i&1 == 1 {
				indices = append(indices, i)
			}
		}
		if len(indices) <= most {
			found = append(found, indices)
		}
	}
	slices.SortFunc(found, func(a, b []int) int {
		if len(a) != len(b) {
			return len(a) - len(b)
		}
		return slices.Compare(a, b)
	})
	return found
}

// least tries all lists.
func least(l [][]int) (model, []int) {
	for _, indices := range lists(len(l), len(l[0])+1) {
		if m, ok := supports(l, indices); ok {
			return m, indices
		}
	}
	panic("no support")
}

// cloud is some points, many of them at one place, on one line, or on one circle or sphere.
func cloud(r *rand.Rand, size, n int) [][]int {
	most := []int{1, 1, 2, 3, 9, 1000, api.MaxCoord}[r.Intn(7)]
	at := func() int {
		if r.Intn(8) == 0 {
			return most - 2*most*r.Intn(2)
		}
		return r.Intn(2*most+1) - most
	}
	var l [][]int
	for range n {
		var p []int
		for range size {
			p = append(p, at())
		}
		l = append(l, p)
	}
	for i := range l {
		switch r.Intn(8) {
		case 0: // the same distance from the origin as another one
			l[i] = slices.Clone(l[r.Intn(n)])
			r.Shuffle(size, func(j, k int) { l[i][j], l[i][k] = l[i][k], -l[i][j] })
		case 1: // between two others, at least nearly
			p, q := l[r.Intn(n)], l[r.Intn(n)]
			for j := range size {
				l[i][j] = (p[j] + q[j]) / 2
			}
		case 2: // opposite to another one
			p := l[r.Intn(n)]
			for j := range size {
				l[i][j] = -p[j]
			}
		}
	}
	return l
}
