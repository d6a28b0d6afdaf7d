package discs_test

import (
	"math/big"
	"math/rand"
	"slices"

	"metrolab/api"
	"metrolab/discs"
)

type number = *big.Rat

func whole(n int) number { return new(big.Rat).SetInt64(int64(n)) }

func value(a api.Rat) number {
	v, ok := new(big.Rat).SetString(string(a))
	if !ok {
		panic("no number: " + a)
	}
	return v
}

func text(v number) api.Rat { return api.Rat(v.RatString()) }

func plus(l ...number) number {
	sum := new(big.Rat)
	for _, v := range l {
		sum.Add(sum, v)
	}
	return sum
}

func minus(a, b number) number { return new(big.Rat).Sub(a, b) }

func times(l ...number) number {
	product := whole(1)
	for _, v := range l {
		product.Mul(product, v)
	}
	return product
}

func over(a, b number) number { return new(big.Rat).Quo(a, b) }

// surd is a + b root c.
type surd struct{ a, b, c number }

// less takes a number from a surd, and squared squares it.
func (x surd) less(v number) surd { return surd{minus(x.a, v), x.b, x.c} }

func (x surd) squared() surd {
	return surd{plus(times(x.a, x.a), times(x.b, x.b, x.c)), times(whole(2), x.a, x.b), x.c}
}

func (x surd) sign() int {
	root := x.b.Sign() * x.c.Sign()
	if x.a.Sign()*root >= 0 {
		return max(-1, min(1, x.a.Sign()+root))
	}
	return x.a.Sign() * times(x.a, x.a).Cmp(times(x.b, x.b, x.c))
}

// spot is a place whose coordinates have the same root.
type spot struct{ x, y surd }

func spotOf(p api.Place) spot {
	return spot{surd{value(p.X), whole(0), whole(0)}, surd{value(p.Y), whole(0), whole(0)}}
}

// in reports whether a place is in a disc.
func (p spot) in(d api.Disc) bool {
	x, y := p.x.less(value(d.Center.X)).squared(), p.y.less(value(d.Center.Y)).squared()
	return surd{plus(x.a, y.a), plus(x.b, y.b), p.x.c}.less(value(d.Square)).sign() <= 0
}

// distance is the squared distance of the centers.
func distance(a, b api.Disc) number {
	x, y := minus(value(a.Center.X), value(b.Center.X)), minus(value(a.Center.Y), value(b.Center.Y))
	return plus(times(x, x), times(y, y))
}

// place goes from the center of the first disc along the way to the second one, and then square to it.
func place(l []api.Disc, w discs.Witness) (spot, bool) {
	a, b := l[w.I], l[w.J]
	if w.I == w.J {
		return spotOf(a.Center), w.Side == 0
	}
	square := distance(a, b)
	if square.Sign() == 0 {
		return spot{}, false
	}
	along := over(minus(plus(square, value(a.Square)), value(b.Square)), times(whole(2), square))
	rest := minus(over(value(a.Square), square), times(along, along))
	if rest.Sign() < 0 || (rest.Sign() == 0) != (w.Side == 0) {
		return spot{}, false
	}
	x, y := minus(value(b.Center.X), value(a.Center.X)), minus(value(b.Center.Y), value(a.Center.Y))
	return spot{
		surd{plus(value(a.Center.X), times(along, x)), times(whole(-w.Side), y), rest},
		surd{plus(value(a.Center.Y), times(along, y)), times(whole(w.Side), x), rest},
	}, true
}

func proves(l []api.Disc, w discs.Witness) bool {
	p, ok := place(l, w)
	return ok && !slices.ContainsFunc(l, func(d api.Disc) bool { return !p.in(d) })
}

// witnesses are all, in order.
func witnesses(n int) []discs.Witness {
	var found []discs.Witness
	for i := range n {
		found = append(found, discs.Witness{I: i, J: i})
	}
	for i := range n {
		for j := i + 1; j < n; j++ {
			found = append(found, discs.Witness{I: i, J: j}, discs.Witness{I: i, J: j, Side: 1}, discs.Witness{I: i, J: j, Side: -1})
		}
	}
	return found
}

func common(l []api.Disc) (bool, discs.Witness) {
	for _, w := range witnesses(len(l)) {
		if proves(l, w) {
			return true, w
		}
	}
	return false, discs.Witness{}
}

// exceeds is the sign of root a - root b - root c.
func exceeds(a, b, c number) int {
	rest := minus(minus(a, b), c)
	return surd{rest, whole(-2), times(b, c)}.sign()
}

func relate(a, b api.Disc) int {
	apart, first, second := distance(a, b), value(a.Square), value(b.Square)
	switch {
	case exceeds(apart, first, second) > 0:
		return -1
	case exceeds(second, apart, first) >= 0:
		return 2
	case exceeds(first, apart, second) >= 0:
		return 3
	case exceeds(apart, first, second) == 0:
		return 0
	}
	return 1
}

func contradiction(l []api.Disc) []int {
	if ok, _ := common(l); ok {
		return nil
	}
	for i := range l {
		for j := i + 1; j < len(l); j++ {
			if relate(l[i], l[j]) == -1 {
				return []int{i, j}
			}
		}
	}
	for i := range l {
		for j := i + 1; j < len(l); j++ {
			for k := j + 1; k < len(l); k++ {
				if ok, _ := common([]api.Disc{l[i], l[j], l[k]}); !ok {
					return []int{i, j, k}
				}
			}
		}
	}
	panic("no contradiction")
}

func redundant(l []api.Disc) []int {
	var found []int
	for i, d := range l {
		for j, other := range l {
			if i != j && relate(other, d) == 2 && (other != d || j < i) {
				found = append(found, i)
				break
			}
		}
	}
	return found
}

func disc(x, y, square api.Rat) api.Disc {
	return api.Disc{Center: api.Place{X: x, Y: y}, Square: square}
}

func discOf(x, y, square number) api.Disc { return disc(text(x), text(y), text(square)) }

// some are discs of some kind: many that touch, many through one place, or any ones.
func some(r *rand.Rand, n int) []api.Disc {
	kind, most := r.Intn(5), []int{1, 2, 5, 60, 100000}[r.Intn(5)]
	parts := [][]int64{{1}, {1}, {1, 2}, {1, 2, 3, 7}, {1, 6, 35}}[r.Intn(5)]
	at := func() number { return big.NewRat(int64(r.Intn(2*most+1)-most), parts[r.Intn(len(parts))]) }
	px, py := at(), at()
	var l []api.Disc
	for range n {
		x, y, square := at(), at(), at()
		switch {
		case r.Intn(6) == 0 && len(l) > 0: // the same center as another one, or the same disc
			other := l[r.Intn(len(l))]
			x, y = value(other.Center.X), value(other.Center.Y)
			if r.Intn(2) == 0 {
				square = value(other.Square)
			}
		case kind == 0 || r.Intn(8) == 0: // on a line through a place, or on both lines of a lattice, with the radius up to it
			k := r.Intn(5) - 2
			x, y = plus(px, whole(3*k)), plus(py, whole(4*k))
			square = whole(25 * k * k)
		case kind < 3: // through a place, or nearly
			square = plus(times(minus(x, px), minus(x, px)), times(minus(y, py), minus(y, py)))
			if r.Intn(5) == 0 {
				square = plus(square, big.NewRat(int64(r.Intn(3)-1), 9))
			}
		case r.Intn(3) > 0: // with a radius
			square = times(square, square)
		}
		l = append(l, discOf(x, y, square.Abs(square)))
	}
	return l
}

// triple is three discs, and perhaps great ones, which meet by pairs if the triangle of their centers is acute, but have no
// common place: their square is between that of half of the longest side and that of the circle around the centers.
func triple(r *rand.Rand) []api.Disc {
	most := []int{2, 5, 60, 100000}[r.Intn(4)]
	at := func() number { return big.NewRat(int64(r.Intn(2*most+1)-most), 1+r.Int63n(2)) }
	var l []api.Disc
	for range 3 {
		l = append(l, discOf(at(), at(), whole(0)))
	}
	sides := []number{distance(l[0], l[1]), distance(l[1], l[2]), distance(l[2], l[0])}
	slices.SortFunc(sides, number.Cmp)
	// By Heron, 16 times the squared area, and so the square of the circle.
	area := minus(times(whole(4), sides[0], sides[1]), times(minus(plus(sides[0], sides[1]), sides[2]), minus(plus(sides[0], sides[1]), sides[2])))
	if area.Sign() == 0 {
		return triple(r)
	}
	around, half := over(times(sides...), area), times(big.NewRat(1, 4), sides[2])
	for i := range l {
		l[i].Square = text(plus(times(big.NewRat(1, 9), around), times(big.NewRat(8, 9), half)))
	}
	for range r.Intn(3) {
		l = append(l, discOf(at(), at(), whole(10*most*most)))
	}
	r.Shuffle(len(l), func(i, j int) { l[i], l[j] = l[j], l[i] })
	return l
}
