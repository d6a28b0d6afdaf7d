package program

import (
	"metrolab/api"
	"metrolab/ratio"
	"metrolab/reckon"
)

// Verify returns OK if a point keeps all bounds.
func Verify(n int, l []api.Bound, point []api.Rat) api.Errno {
	if e := Check(n, l); e != api.OK {
		return e
	}
	if len(point) != n {
		return api.ErrShape
	}
	if e := reckon.Check(point); e != api.OK {
		return e
	}
	var p proof
	p.keeps(l, point)
	return p.Errno
}

// Refute returns OK if weights show that no point keeps all bounds.
func Refute(n int, l []api.Bound, weights []api.Rat) api.Errno {
	if e := Check(n, l); e != api.OK {
		return e
	}
	if len(weights) != len(l) {
		return api.ErrShape
	}
	if e := reckon.Check(weights); e != api.OK {
		return e
	}
	var p proof
	p.demand(p.sign(p.weigh(l, weights, zeros(n))) < 0)
	return p.Errno
}

// VerifyMost returns OK if a point and weights prove that a value is the greatest one.
func VerifyMost(n int, l []api.Bound, x Optimum) api.Errno {
	if e := Check(n, l); e != api.OK {
		return e
	}
	if len(x.Goal) != n || len(x.Point) != n || len(x.Weights) != len(l) {
		return api.ErrShape
	}
	if e := reckon.Check(x.Goal, []api.Rat{x.Value}, x.Point, x.Weights); e != api.OK {
		return e
	}
	var p proof
	p.keeps(l, x.Point)
	p.demand(p.Dot(x.Goal, x.Point) == x.Value)
	p.demand(p.weigh(l, x.Weights, x.Goal) == x.Value)
	return p.Errno
}

// proof keeps the first error of its steps; one that does not hold is ErrProof.
type proof struct{ reckon.Keeper }

func (p *proof) demand(holds bool) {
	if !holds {
		p.Keep(api.ErrProof)
	}
}

func (p *proof) sign(a api.Rat) int {
	sign, e := ratio.Sign(a)
	p.Keep(e)
	return sign
}

// keeps demands that a point keeps all bounds.
func (p *proof) keeps(l []api.Bound, point []api.Rat) {
	for _, b := range l {
		p.demand(p.sign(p.Difference(p.Dot(b.Row, point), b.Most)) <= 0)
	}
}

// weigh demands that no weight is negative and that the weighted rows add up to a goal, and returns what the weighted numbers Most add up to.
func (p *proof) weigh(l []api.Bound, weights, goal []api.Rat) api.Rat {
	for _, w := range weights {
		p.demand(p.sign(w) >= 0)
	}
	column := make([]api.Rat, len(l))
	for j, wanted := range goal {
		for i, b := range l {
			column[i] = b.Row[j]
		}
		p.demand(p.Dot(column, weights) == wanted)
	}
	for i, b := range l {
		column[i] = b.Most
	}
	return p.Dot(column, weights)
}
