package allot

import (
	"slices"

	"metrolab/api"
)

// Solve returns the solution and its cost.
func Solve(t Task) ([]int, int, api.Errno) {
	if e := Check(t); e != api.OK {
		return nil, 0, e
	}
	rests := slices.Collect(t.fronts(t.Most))
	slices.Reverse(rests)
	cost, ok := rests[0].least(t.Most)
	if !ok {
		return nil, 0, api.ErrNone
	}
	return t.search(rests, cost), cost, api.OK
}

// search returns the first permitted pick in lexicographic order with the least cost. For each place in the list of parts it is given
// the front of the picks for the parts from there on. By these bounds, only choices that lead to the least cost are not cut off.
func (t Task) search(rests []front, cost int) []int {
	var pick []int
	var choose func(room, cost int)
	choose = func(room, cost int) {
		at := len(pick)
		if at == len(t.Parts) {
			return
		}
		p := t.Parts[at]
		for i := range p.Choices {
			c := p.choice(i)
			if least, ok := rests[at+1].least(room - c.Width); ok && c.Cost+least <= cost {
				pick = append(pick, i)
				choose(room-c.Width, cost-c.Cost)
				return
			}
		}
	}
	choose(t.Most, cost)
	return pick
}
