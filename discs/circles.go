package discs

import (
	"cmp"

	"metrolab/api"
	"metrolab/reckon"
)

// circles are discs in integers: centers times a unit, and squares times the square of this unit and a part.
// So discs whose numbers have up to 20 digits need less than MaxLong digits; ratio.SignRoot would need more.
type circles struct {
	*reckon.Keeper
	centers [][]api.Int
	squares []api.Int
	part    api.Int
}

// scaled returns discs in integers.
func scaled(k *reckon.Keeper, l ...api.Disc) circles {
	var coordinates, squares []api.Rat
	for _, d := range l {
		coordinates = append(coordinates, d.Center.X, d.Center.Y)
		squares = append(squares, d.Square)
	}
	c := circles{Keeper: k}
	places, unit := k.Common(coordinates)
	c.squares, c.part = k.Common(squares)
	for i := range l {
		c.centers = append(c.centers, places[2*i:2*i+2])
		c.squares[i] = k.Times(c.squares[i], k.Times(unit, unit))
	}
	return c
}

// way returns the way from the center of the first disc to that of another one.
func (c circles) way(i int) []api.Int { return c.combined("1", c.centers[i], "1", c.centers[0]) }

// combined returns a v - b w.
func (c circles) combined(a api.Int, v []api.Int, b api.Int, w []api.Int) []api.Int {
	var l []api.Int
	for i := range v {
		l = append(l, c.Minus(c.Times(a, v[i]), c.Times(b, w[i])))
	}
	return l
}

// apart returns the squared distance of the centers of the first disc and another one, in the unit of the squares.
func (c circles) apart(i int) api.Int {
	way := c.way(i)
	return c.Times(c.part, c.Products(way, way))
}

// share returns twice the product of the way to another center with a way from the first center to a place of both circles.
// A place of the first circle is in the other disc if its product is not less.
func (c circles) share(i int) api.Int {
	return c.Minus(c.Plus(c.apart(i), c.squares[0]), c.squares[i])
}

// width returns the square of the distance of the two common places of the first two circles, times the squared distance
// of the centers. It is negative if the circles do not meet.
func (c circles) width() api.Int {
	share := c.share(1)
	return c.Minus(c.Times("4", c.Times(c.squares[0], c.apart(1))), c.Times(share, share))
}

// inside reports whether the common place of the first two circles on some side is in the third disc.
// With the ways v and w to the second and the third center, and the shares s and t, the sign of
//
//	s (v w) - t (v v) + side (v x w) root width
//
// decides. Its terms with different signs are compared by their squares, the difference of which is divided by v v.
func (c circles) inside(side int) bool {
	v, w := c.way(1), c.way(2)
	s, t := c.share(1), c.share(2)
	along := c.Sign(c.Minus(c.Times(s, c.Products(v, w)), c.Times(t, c.Products(v, v))))
	turn := c.Minus(c.Times(v[0], w[1]), c.Times(v[1], w[0]))
	across := side * c.Sign(turn)
	if along*across >= 0 {
		return cmp.Or(along, across) >= 0
	}
	rest := c.combined(s, w, t, v)
	least := c.Times(c.Times("4", c.Times(c.squares[0], c.part)), c.Times(turn, turn))
	return along*c.Sign(c.Minus(c.Products(rest, rest), least)) >= 0
}

func contains(k *reckon.Keeper, d api.Disc, p api.Place) bool {
	c := scaled(k, d, api.Disc{Center: p, Square: "0"})
	return k.Sign(c.Minus(c.squares[0], c.apart(1))) >= 0
}

func relate(k *reckon.Keeper, a, b api.Disc) int {
	c := scaled(k, a, b)
	first, second, apart := c.squares[0], c.squares[1], c.apart(1)
	width := c.Sign(c.width())
	switch {
	case width > 0:
		return 1
	case c.Sign(c.Minus(second, c.Plus(apart, first))) >= 0:
		return 2
	case c.Sign(c.Minus(first, c.Plus(apart, second))) >= 0:
		return 3
	}
	return width
}
