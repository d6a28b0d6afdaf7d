package hullspace_test

import (
	"cmp"
	"math/big"
	"math/rand"
	"slices"

	"metrolab/api"
	"metrolab/hullspace"
)

func s(x, y, z int) api.Spot { return api.Spot{X: x, Y: y, Z: z} }

// row has the coordinates of a point, and a 1 that makes the sum of weights a coordinate of weighted means.
func row(p api.Spot) []*big.Rat {
	var r []*big.Rat
	for _, n := range []int{p.X, p.Y, p.Z, 1} {
		r = append(r, big.NewRat(int64(n), 1))
	}
	return r
}

// less takes a multiple of b from a, so that a has 0 where b has its first number.
func less(a, b []*big.Rat) []*big.Rat {
	at := slices.IndexFunc(b, func(x *big.Rat) bool { return x.Sign() != 0 })
	factor := new(big.Rat).Quo(a[at], b[at])
	var c []*big.Rat
	for i := range a {
		c = append(c, new(big.Rat).Sub(a[i], new(big.Rat).Mul(factor, b[i])))
	}
	return c
}

// dimension is the rank of the rows of all points, less 1.
func dimension(l []api.Spot) int {
	var found [][]*big.Rat
	for _, p := range l {
		r := row(p)
		for _, b := range found {
			r = less(r, b)
		}
		if slices.ContainsFunc(r, func(x *big.Rat) bool { return x.Sign() != 0 }) {
			found = append(found, r)
		}
	}
	return len(found) - 1
}

// determinant is the one of the vectors from a to b, c and d, by its definition.
func determinant(a, b, c, d api.Spot) *big.Int {
	vectors := [][]int{minus(b, a), minus(c, a), minus(d, a)}
	sum := new(big.Int)
	for sign, l := range map[int64][][]int{1: {{0, 1, 2}, {1, 2, 0}, {2, 0, 1}}, -1: {{2, 1, 0}, {1, 0, 2}, {0, 2, 1}}} {
		for _, order := range l {
			term := big.NewInt(sign)
			for i, at := range order {
				term.Mul(term, big.NewInt(int64(vectors[i][at])))
			}
			sum.Add(sum, term)
		}
	}
	return sum
}

func minus(a, b api.Spot) []int { return []int{a.X - b.X, a.Y - b.Y, a.Z - b.Z} }

// sets are all sets of at most so many points.
func sets(l []api.Spot, size int) [][]api.Spot {
	found := [][]api.Spot{nil}
	for i := range l {
		if size > 0 {
			for _, rest := range sets(l[i+1:], size-1) {
				found = append(found, append([]api.Spot{l[i]}, rest...))
			}
		}
	}
	return found
}

// inside reports whether p is a weighted mean of at most four points: it is one of independent points then.
func inside(l []api.Spot, p api.Spot) bool {
	for _, set := range sets(l, 4) {
		if dimension(set) == len(set)-1 && dimension(append(slices.Clone(set), p)) == len(set)-1 && mean(set, p) {
			return true
		}
	}
	return false
}

// mean reports whether p, which is in the space of independent points, is a mean of them with no negative weight.
func mean(set []api.Spot, p api.Spot) bool {
	for i := range set {
		rest := slices.Delete(slices.Clone(set), i, i+1)
		var found [][]*big.Rat
		reduce := func(r []*big.Rat) []*big.Rat {
			for _, b := range found {
				r = less(r, b)
			}
			return r
		}
		for _, q := range rest {
			found = append(found, reduce(row(q)))
		}
		own, other := reduce(row(set[i])), reduce(row(p)) // other is the weight of set[i] times own
		for j := range own {
			if own[j].Sign()*other[j].Sign() < 0 {
				return false
			}
		}
	}
	return len(set) > 0
}

func vertices(l []api.Spot) []int {
	var found []int
	for i, p := range l {
		others := slices.DeleteFunc(slices.Clone(l), func(q api.Spot) bool { return p == q })
		if slices.Index(l, p) == i && !inside(others, p) {
			found = append(found, i)
		}
	}
	return found
}

// facets looks at the sides of all points for the plane through each three of them.
func facets(l []api.Spot) []hullspace.Facet {
	var found []hullspace.Facet
	for _, set := range sets(l, 3) {
		if len(set) < 3 || dimension(set) < 2 {
			continue
		}
		a, b, c := set[0], set[1], set[2]
		sides := map[int]bool{}
		var on []int
		for i, p := range l {
			side := determinant(a, b, c, p).Sign()
			if sides[side] = true; side == 0 {
				on = append(on, i)
			}
		}
		if sides[1] && sides[-1] {
			continue
		}
		f := hullspace.Facet{Normal: outer(a, b, c, sides[1]), Spots: on}
		f.Most = product(f.Normal, a)
		if !slices.ContainsFunc(found, func(g hullspace.Facet) bool { return slices.Equal(g.Spots, on) }) {
			found = append(found, f)
		}
	}
	slices.SortFunc(found, func(f, g hullspace.Facet) int {
		return cmp.Or(cmp.Compare(f.Normal[0], g.Normal[0]), cmp.Compare(f.Normal[1], g.Normal[1]), cmp.Compare(f.Normal[2], g.Normal[2]))
	})
	return found
}

// outer is the normal of a, b and c without a common divisor, or the opposite one.
func outer(a, b, c api.Spot, opposite bool) [3]int {
	// the determinant with the point beside a along an axis is the coordinate of the normal for it
	numbers := []*big.Int{determinant(a, b, c, s(a.X+1, a.Y, a.Z)), determinant(a, b, c, s(a.X, a.Y+1, a.Z)), determinant(a, b, c, s(a.X, a.Y, a.Z+1))}
	common := new(big.Int)
	for _, n := range numbers {
		common.GCD(nil, nil, common, new(big.Int).Abs(n))
	}
	if opposite {
		common.Neg(common)
	}
	var normal [3]int
	for i, n := range numbers {
		normal[i] = int(new(big.Int).Quo(n, common).Int64())
	}
	return normal
}

// product panics if it is too large for an int.
func product(v [3]int, p api.Spot) int {
	sum := new(big.Int)
	for i, n := range []int{p.X, p.Y, p.Z} {
		sum.Add(sum, new(big.Int).Mul(big.NewInt(int64(v[i])), big.NewInt(int64(n))))
	}
	if !sum.IsInt64() {
		panic("too large")
	}
	return int(sum.Int64())
}

func edges(l []api.Spot) [][2]int {
	var found [][2]int
	corners, sides := vertices(l), facets(l)
	for _, i := range corners {
		for _, j := range corners {
			count := 0
			for _, f := range sides {
				if slices.Contains(f.Spots, i) && slices.Contains(f.Spots, j) {
					count++
				}
			}
			if i < j && count > 1 {
				found = append(found, [2]int{i, j})
			}
		}
	}
	return found
}

// cloud is some points, of any dimension, with points at one place, inside, and on edges and facets.
func cloud(r *rand.Rand, n int) []api.Spot {
	most := []int{1, 1, 2, 3, 9, 1000, api.MaxCoord}[r.Intn(7)]
	at := func() int {
		if r.Intn(8) == 0 {
			return most - 2*most*r.Intn(2)
		}
		return r.Intn(2*most+1) - most
	}
	var l []api.Spot
	for range n {
		l = append(l, s(at(), at(), at()))
	}
	if n > 0 {
		flatten(r, l)
	}
	for i := range l {
		if j, k := r.Intn(n), r.Intn(n); r.Intn(4) == 0 {
			l[i] = s((l[j].X+l[k].X)/2, (l[j].Y+l[k].Y)/2, (l[j].Z+l[k].Z)/2)
		}
	}
	return l
}

// flatten moves points to a plane, a line or a place, perhaps.
func flatten(r *rand.Rand, l []api.Spot) {
	kind, factor := r.Intn(12), r.Intn(3)-1
	for i, p := range l {
		switch kind {
		case 0:
			l[i].X = l[0].X
		case 1:
			l[i].Y = l[0].Y
		case 2:
			l[i].Z = factor * p.X
		case 3:
			l[i].X, l[i].Y = l[0].X, factor*p.Z
		case 4:
			l[i].Y, l[i].Z = factor*p.X, -p.X
		case 5:
			l[i].X, l[i].Z = l[0].X, l[0].Z
		case 6:
			l[i] = l[0]
		case 7:
			l[i].X = (p.Y + p.Z) / 2
		}
	}
}
