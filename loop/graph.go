package loop

import (
	"math"
	"slices"

	"metrolab/api"
)

// way is a link, and the index of the feature at which it ends.
type way struct {
	Link
	to int
}

// graph has the ways that begin at each feature, in the order of their links.
type graph struct {
	index map[string]int
	ways  [][]way
}

// place returns the index of a feature, which is a new one for a new name.
func (g *graph) place(name string) int {
	i, ok := g.index[name]
	if !ok {
		i = len(g.ways)
		g.index[name] = i
		g.ways = append(g.ways, nil)
	}
	return i
}

// graphOf returns the graph of chosen dimensions.
func graphOf(l []api.Dimension, chosen func(i int, d api.Dimension) bool) *graph {
	g := &graph{index: map[string]int{}}
	for i, d := range l {
		if !chosen(i, d) {
			continue
		}
		from, to := g.place(d.From), g.place(d.To)
		g.ways[from] = append(g.ways[from], way{Link{Dim: i}, to})
		g.ways[to] = append(g.ways[to], way{Link{Dim: i, Back: true}, from})
	}
	return g
}

// forest reports of each dimension whether it belongs to the forest.
func forest(l []api.Dimension) []bool {
	index := graphOf(l, func(int, api.Dimension) bool { return true }).index
	n := len(index) * api.Axes
	trees := make([]int, n) // which tree each feature is in, along each axis
	for i := range n {
		trees[i] = i
	}
	joins := make([]bool, len(l))
	for i, d := range l {
		tree := trees[index[d.From]*api.Axes+d.Axis]
		other := trees[index[d.To]*api.Axes+d.Axis]
		joins[i] = tree != other
		for j := range n {
			if trees[j] == other {
				trees[j] = tree
			}
		}
	}
	return joins
}

// none says that no chain leads to a feature.
const none = math.MaxInt

// far returns how many links there are at least from each feature to one of them, past others that may not be passed.
func (g *graph) far(to int, closed []bool) []int {
	far := slices.Repeat([]int{none}, len(g.ways))
	far[to] = 0
	reached := []int{to}
	for i := 0; i < len(reached); i++ {
		at := reached[i]
		for _, w := range g.ways[at] {
			if far[w.to] == none && !closed[w.to] {
				far[w.to] = far[at] + 1
				reached = append(reached, w.to)
			}
		}
	}
	return far
}

// shortest returns the first one of the shortest chains between two features, or nothing.
func (g *graph) shortest(from, to string) []Link {
	at, first := g.index[from]
	end, last := g.index[to]
	if !first || !last {
		return nil
	}
	far := g.far(end, make([]bool, len(g.ways)))
	var chain []Link
	for far[at] != none && at != end {
		nearer := slices.IndexFunc(g.ways[at], func(w way) bool { return far[w.to] < far[at] })
		w := g.ways[at][nearer]
		chain = append(chain, w.Link)
		at = w.to
	}
	return chain
}

// all returns the chains between two features in order, but not more than most of them.
func (g *graph) all(from, to string, most int) [][]Link {
	start, first := g.index[from]
	end, last := g.index[to]
	if !first || !last {
		return nil
	}
	var found [][]Link
	var chain []Link
	passed := make([]bool, len(g.ways))
	var search func(at int)
	search = func(at int) {
		if at == end {
			found = append(found, slices.Clone(chain))
			return
		}
		passed[at] = true
		for _, w := range g.leading(at, end, passed) {
			if len(found) == most {
				break
			}
			chain = append(chain, w.Link)
			search(w.to)
			chain = chain[:len(chain)-1]
		}
		passed[at] = false
	}
	search(start)
	return found
}

// leading returns the ways on which a chain goes on from a feature to another one, past what is passed already.
// Where there is a choice, it is without ways into dead ends: otherwise the search could get lost in them, however few chains there are.
func (g *graph) leading(at, end int, passed []bool) []way {
	open := slices.DeleteFunc(slices.Clone(g.ways[at]), func(w way) bool { return passed[w.to] })
	if len(open) < 2 {
		return open
	}
	far := g.far(end, passed)
	return slices.DeleteFunc(open, func(w way) bool { return far[w.to] == none })
}
