package complete

import (
	"iter"
	"math"
	"slices"

	"metrolab/api"
)

// maxNames is how many names the dimensions of a list have at most.
const maxNames = 2 * api.MaxList

// none says that names are in different groups.
const none = math.MaxInt

// row has something for each name, by its index.
type row [maxNames]int

// way is a step between two names, by their indices, which leads so far at most.
type way struct {
	Step
	from, to, most int
}

// graph has the steps between names.
type graph struct {
	names []string
	index map[string]int
	ways  []way
	// far has how far each name is at most behind another one, in the rows of those from which it was asked for.
	far    [maxNames]*row
	groups forest
}

// graphOf returns the graph of dimensions along an axis.
func graphOf(l []api.Dimension, axis int) *graph {
	g := &graph{names: names(l, axis), index: map[string]int{}}
	for i, name := range g.names {
		g.index[name] = i
	}
	g.groups, _ = join(l, axis)
	for i, d := range along(l, axis) {
		from, to := g.index[d.From], g.index[d.To]
		g.ways = append(g.ways,
			way{Step{Index: i}, from, to, most(d, false)},
			way{Step{Index: i, Back: true}, to, from, most(d, true)},
		)
	}
	return g
}

// without returns the graph without a dimension. It has the same names, even those that no step joins any more.
func (g *graph) without(dimension int) *graph {
	ways := slices.DeleteFunc(slices.Clone(g.ways), func(w way) bool { return w.Index == dimension })
	return &graph{names: g.names, index: g.index, ways: ways}
}

// first returns the index of the first name of the group of a name.
func (g *graph) first(i int) int { return g.index[g.groups.first(g.names[i])] }

// check returns the error of a graph with a loop that contradicts.
func (g *graph) check() api.Errno {
	if len(g.contradiction()) > 0 {
		return api.ErrConflict
	}
	return api.OK
}

// contradiction returns a loop that contradicts. If there is none, the distances from the first name of each group are known.
func (g *graph) contradiction() []Step {
	for i := range g.names {
		if g.first(i) == i {
			if loop := g.measure(i); len(loop) > 0 {
				return loop
			}
		}
	}
	return nil
}

// distance returns the limits of how far the second name is behind the first one, where no loop contradicts, and whether both are in one group.
func (g *graph) distance(i, j int) (api.Limits, bool) {
	g.measure(i)
	g.measure(j)
	if g.far[i][j] == none {
		return api.Limits{}, false
	}
	return api.Limits{Low: -g.far[j][i], High: g.far[i][j]}, true
}

// measure makes the distances from a name known, or returns a loop of its group that contradicts.
// Behind as many rounds as there are names, each of which still brings a name nearer, the ways by which names were reached last lead back into such a loop.
func (g *graph) measure(from int) []Step {
	var far, last row
	for i := range far {
		far[i] = none
	}
	far[from] = 0
	nearer := from
	for range g.names {
		nearer = none
		for i, w := range g.shorter(&far) {
			last[w.to], nearer = i, w.to
		}
		if nearer == none {
			g.far[from] = &far
			return nil
		}
	}
	return g.loop(last, nearer)
}

// shorter yields the ways behind which a name is nearer than before, with their indices, and keeps its distance.
func (g *graph) shorter(far *row) iter.Seq2[int, way] {
	return func(yield func(int, way) bool) {
		for i, w := range g.ways {
			if far[w.from] == none || far[w.from]+w.most >= far[w.to] {
				continue
			}
			far[w.to] = far[w.from] + w.most
			if !yield(i, w) {
				return
			}
		}
	}
}

// loop returns the loop to which the ways by which names were reached last lead back from a name.
func (g *graph) loop(last row, name int) []Step {
	for range g.names {
		name = g.ways[last[name]].from
	}
	var steps []Step
	for end := name; len(steps) == 0 || name != end; {
		w := g.ways[last[name]]
		steps = append(steps, w.Step)
		name = w.from
	}
	slices.Reverse(steps)
	return steps
}
