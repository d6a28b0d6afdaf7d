package arrange_test

import (
	"math/big"
	"math/rand"
	"slices"

	"metrolab/api"
	"metrolab/arrange"
)

type number = *big.Rat

func whole(n int) number { return new(big.Rat).SetInt64(int64(n)) }

func parse(a api.Rat) number {
	v, ok := new(big.Rat).SetString(string(a))
	if !ok {
		panic("no number: " + a)
	}
	return v
}

func plus(a, b number) number { return new(big.Rat).Add(a, b) }

func minus(a, b number) number { return new(big.Rat).Sub(a, b) }

func times(a, b number) number { return new(big.Rat).Mul(a, b) }

func over(a, b number) number { return new(big.Rat).Quo(a, b) }

// spot is a place with numbers that never overflow.
type spot struct{ x, y number }

func (p spot) place() api.Place {
	return api.Place{X: api.Rat(p.x.RatString()), Y: api.Rat(p.y.RatString())}
}

func spotOf(p api.Place) spot { return spot{parse(p.X), parse(p.Y)} }

func (p spot) compare(q spot) int {
	if order := p.x.Cmp(q.x); order != 0 {
		return order
	}
	return p.y.Cmp(q.y)
}

// value is A x + B y - C.
func value(l arrange.Line, p spot) number {
	return minus(plus(times(whole(l.A), p.x), times(whole(l.B), p.y)), whole(l.C))
}

// between is where the segment from p to q meets a line that has them on different sides.
func between(l arrange.Line, p, q spot) spot {
	a, b := value(l, p), value(l, q)
	part := over(a, minus(a, b))
	return spot{plus(p.x, times(part, minus(q.x, p.x))), plus(p.y, times(part, minus(q.y, p.y)))}
}

// turn is the sine of the angle between two lines, but for a positive factor.
func turn(l, m arrange.Line) number {
	return minus(times(whole(l.A), whole(m.B)), times(whole(l.B), whole(m.A)))
}

// twoOf are two places of a line.
func twoOf(l arrange.Line) (spot, spot) {
	square := plus(times(whole(l.A), whole(l.A)), times(whole(l.B), whole(l.B)))
	part := over(whole(l.C), square)
	p := spot{times(part, whole(l.A)), times(part, whole(l.B))}
	return p, spot{minus(p.x, whole(l.B)), plus(p.y, whole(l.A))}
}

// same reports whether all places of a line are on another one.
func same(l, m arrange.Line) bool {
	p, q := twoOf(l)
	return value(m, p).Sign() == 0 && value(m, q).Sign() == 0
}

// meet goes from a place of a line along it to the other line.
func meet(l, m arrange.Line) (int, api.Place) {
	if turn(l, m).Sign() == 0 {
		if same(l, m) {
			return 2, api.Place{}
		}
		return 0, api.Place{}
	}
	p, q := twoOf(l)
	return 1, between(m, p, q).place() // also behind p or q
}

func distinct(l []arrange.Line) []arrange.Line {
	var found []arrange.Line
	for _, line := range l {
		if !slices.ContainsFunc(found, func(m arrange.Line) bool { return same(line, m) }) {
			found = append(found, line)
		}
	}
	return found
}

// on are the vertices on a line.
func on(line arrange.Line, l []arrange.Line) []api.Place {
	var found []spot
	for _, m := range l {
		if kind, place := meet(line, m); kind == 1 {
			found = append(found, spotOf(place))
		}
	}
	slices.SortFunc(found, spot.compare)
	var places []api.Place
	for _, p := range found {
		places = append(places, p.place())
	}
	return slices.Compact(places)
}

func vertices(l []arrange.Line) []api.Place {
	var found []api.Place
	for _, line := range l {
		for _, p := range on(line, l) {
			if !slices.Contains(found, p) {
				found = append(found, p)
			}
		}
	}
	slices.SortFunc(found, func(p, q api.Place) int { return spotOf(p).compare(spotOf(q)) })
	return found
}

func edges(l []arrange.Line) int {
	count := 0
	for _, line := range distinct(l) {
		count += 1 + len(on(line, l))
	}
	return count
}

// faces cuts a square that is wider than all vertices are apart by one line after another.
func faces(l []arrange.Line) [][]spot {
	far := new(big.Rat).SetFrac(new(big.Int).Exp(big.NewInt(10), big.NewInt(30), nil), big.NewInt(1))
	near := new(big.Rat).Neg(far)
	found := [][]spot{{{near, near}, {far, near}, {far, far}, {near, far}}}
	for _, line := range l {
		var parts [][]spot
		for _, f := range found {
			for _, side := range []int{-1, 1} {
				if part := cut(f, line, side); slices.ContainsFunc(part, func(p spot) bool { return value(line, p).Sign() != 0 }) {
					parts = append(parts, part)
				}
			}
		}
		found = parts
	}
	return found
}

// cut is the part of a polygon on one side of a line.
func cut(polygon []spot, line arrange.Line, side int) []spot {
	var part []spot
	for i, p := range polygon {
		q := polygon[(i+1)%len(polygon)]
		a, b := value(line, p).Sign()*side, value(line, q).Sign()*side
		if a >= 0 {
			part = append(part, p)
		}
		if a*b < 0 {
			part = append(part, between(line, p, q))
		}
	}
	return part
}

// middle is a place in a polygon.
func middle(polygon []spot) spot {
	x, y := whole(0), whole(0)
	for _, p := range polygon {
		x, y = plus(x, p.x), plus(y, p.y)
	}
	n := whole(len(polygon))
	return spot{over(x, n), over(y, n)}
}

func signs(l []arrange.Line, p spot) []int {
	var found []int
	for _, line := range l {
		found = append(found, value(line, p).Sign())
	}
	return found
}

func cells(l []arrange.Line) [][]int {
	var found [][]int
	for _, f := range faces(l) {
		found = append(found, signs(l, middle(f)))
	}
	slices.SortFunc(found, slices.Compare)
	return found
}

// some are lines of some range: in a small one many are parallel, the same, or meet at one place.
func some(r *rand.Rand, n int) []arrange.Line {
	most := []int{1, 1, 2, 5, 1000, 2 * api.MaxCoord}[r.Intn(6)]
	offset := []int{0, 1, 3, most * most}[r.Intn(4)]
	at := func(most int) int {
		if r.Intn(8) == 0 {
			return most - 2*most*r.Intn(2)
		}
		return r.Intn(2*most+1) - most
	}
	var l []arrange.Line
	for len(l) < n {
		line := arrange.Line{A: at(most), B: at(most), C: at(offset)}
		if k := r.Intn(n); r.Intn(4) == 0 && k < len(l) { // a parallel line, perhaps the same one
			line = l[k]
			factor := []int{-2, -1, 1, 3}[r.Intn(4)]
			if most > 5 {
				factor = -1
			}
			line = arrange.Line{A: factor * line.A, B: factor * line.B, C: factor * line.C}
			if r.Intn(2) == 0 {
				line.C = at(offset)
			}
		}
		if line.A != 0 || line.B != 0 {
			l = append(l, line)
		}
	}
	return l
}
