package loop_test

import (
	"cmp"
	"fmt"
	"math/rand"
	"slices"
	"testing"

	"metrolab/api"
	"metrolab/loop"
)

// some returns a few dimensions between a few features, most of them along one axis.
func some(random *rand.Rand, most int) []api.Dimension {
	var l []api.Dimension
	n := 2 + random.Intn(4)
	for range random.Intn(most + 1) {
		p := random.Perm(n)
		l = append(l, of(name(p[0]), name(p[1]), max(0, random.Intn(7)-4)))
	}
	return l
}

// before compares two chains.
func before(a, b []loop.Link) int {
	return slices.CompareFunc(a, b, func(x, y loop.Link) int {
		switch {
		case x.Dim != y.Dim:
			return cmp.Compare(x.Dim, y.Dim)
		case x.Back == y.Back:
			return 0
		case y.Back:
			return -1
		}
		return 1
	})
}

func from(l []api.Dimension, x loop.Link) string {
	if x.Back {
		return l[x.Dim].To
	}
	return l[x.Dim].From
}

func to(l []api.Dimension, x loop.Link) string { return from(l, loop.Link{Dim: x.Dim, Back: !x.Back}) }

// first computes the first error of a chain that is neither empty nor too long.
func first(l []api.Dimension, c []loop.Link) api.Errno {
	for i, x := range c {
		if x.Dim < 0 || x.Dim >= len(l) {
			return api.ErrRange
		}
		if l[x.Dim].Axis != l[c[0].Dim].Axis || i > 0 && from(l, x) != to(l, c[i-1]) {
			return api.ErrShape
		}
		if i > 0 && to(l, c[i-1]) == from(l, c[0]) {
			return api.ErrTwice
		}
		for j := range i {
			if c[j].Dim == x.Dim || j > 0 && to(l, x) == from(l, c[j]) {
				return api.ErrTwice
			}
		}
	}
	return api.OK
}

// extensions calls a function with all lists of at most most links, also such as do not exist.
func extensions(l []api.Dimension, most int, see func(c []loop.Link)) {
	var extend func(c []loop.Link)
	extend = func(c []loop.Link) {
		see(c)
		for i := -1; i <= len(l) && len(c) < most; i++ {
			extend(append(c[:len(c):len(c)], loop.Link{Dim: i}))
			extend(append(c[:len(c):len(c)], loop.Link{Dim: i, Back: true}))
		}
	}
	extend(nil)
}

// P24.1: all lists of links are right or wrong by the definition.
func TestLinks(t *testing.T) {
	random := rand.New(rand.NewSource(1))
	count := map[api.Errno]int{}
	for range 60 {
		l := some(random, 5)
		extensions(l, 4, func(c []loop.Link) {
			want := api.ErrEmpty
			if len(c) > 0 {
				want = first(l, c)
			}
			count[want]++
			if e := loop.Check(l, c); e != want {
				t.Errorf("Check %v in %v: %d instead of %d", c, l, e, want)
			}
		})
	}
	if count[api.OK] < 300 || count[api.ErrTwice] < 300 {
		t.Error(count)
	}
}

// all computes all chains between two features, in order.
func all(l []api.Dimension, x loop.Query) [][]loop.Link {
	var found [][]loop.Link
	var extend func(c []loop.Link)
	extend = func(c []loop.Link) {
		if len(c) > 0 && (loop.Check(l, c) != api.OK || l[c[0].Dim].Axis != x.Axis || from(l, c[0]) != x.From) {
			return
		}
		if len(c) > 0 && to(l, c[len(c)-1]) == x.To {
			found = append(found, c)
		}
		for i := range l {
			extend(append(c[:len(c):len(c)], loop.Link{Dim: i, Back: true}))
			extend(append(c[:len(c):len(c)], loop.Link{Dim: i}))
		}
	}
	extend(nil)
	slices.SortFunc(found, before)
	return found
}

// shorter compares two chains by their lengths first.
func shorter(a, b []loop.Link) int { return cmp.Or(cmp.Compare(len(a), len(b)), before(a, b)) }

// P24.2 and P24.3: the shortest chain is the first one of all with the fewest links; backwards all chains are those from the other end.
func TestAny(t *testing.T) {
	random := rand.New(rand.NewSource(2))
	count := 0
	for range 4000 {
		l := some(random, 9)
		ends := random.Perm(5)
		x := query(name(ends[0]), name(ends[1]), max(0, random.Intn(5)-2))
		what := fmt.Sprint(x, l)
		want := all(l, x)
		found, e := loop.All(l, x)
		expect(t, "All "+what, results(found, e), results(want, api.OK))
		one, e := loop.Find(l, x)
		if len(want) == 0 {
			expect(t, "Find "+what, results(one, e), results([]int{}, api.ErrNone))
			continue
		}
		count += len(want)
		expect(t, "Find "+what, results(one, e), results(slices.MinFunc(want, shorter), api.OK))
		for i, c := range found {
			found[i], _ = loop.Reverse(l, c)
		}
		slices.SortFunc(found, before)
		back, e := loop.All(l, query(x.To, x.From, x.Axis))
		expect(t, "backwards "+what, results(back, e), results(found, api.OK))
	}
	if count < 1000 {
		t.Error(count)
	}
}

// groups counts the groups of features, and features alone, along all axes.
func groups(l []api.Dimension) (int, int) {
	type place struct {
		name string
		axis int
	}
	group := map[place]place{}
	for _, d := range l {
		for _, name := range []string{d.From, d.To} {
			group[place{name, d.Axis}] = place{name, d.Axis}
		}
	}
	for range group {
		for _, d := range l {
			a, b := place{d.From, d.Axis}, place{d.To, d.Axis}
			if group[a].name < group[b].name {
				group[b] = group[a]
			} else {
				group[a] = group[b]
			}
		}
	}
	distinct := map[place]bool{}
	for _, g := range group {
		distinct[g] = true
	}
	return len(distinct), len(group)
}

// P24.2 and P24.3: loops are closed chains, one for each dimension that joins what those before it join already; its other links belong to those that do not.
func TestAnyLoops(t *testing.T) {
	random := rand.New(rand.NewSource(3))
	count := 0
	for range 2000 {
		l := some(random, 12)
		what := fmt.Sprint("Loops ", l)
		loops, e := loop.Loops(l)
		parts, features := groups(l)
		expect(t, what, results(len(loops), e), results(len(l)-features+parts, api.OK))
		var begin []int
		for i := range l {
			less, few := groups(l[:i])
			more, many := groups(l[:i+1])
			if more-less == many-few {
				begin = append(begin, i)
			}
		}
		for i, c := range loops {
			count++
			from, to, e := loop.Ends(l, c)
			expect(t, what, results(c[0], from == to, e), results(loop.Link{Dim: begin[i]}, true, api.OK))
			for _, x := range c[1:] {
				if slices.Contains(begin, x.Dim) {
					t.Errorf("%s: %v in %v", what, x, c)
				}
			}
		}
	}
	if count < 1000 {
		t.Error(count)
	}
}

// P24.3: sums of chains of differences of places.
func TestSums(t *testing.T) {
	random := rand.New(rand.NewSource(4))
	for range 300 {
		l := some(random, 9)
		places := map[string]int{}
		for i := range 6 {
			places[name(i)] = random.Intn(100001) - 50000
		}
		var values, others []int
		for _, d := range l {
			values, others = append(values, places[d.To]-places[d.From]), append(others, random.Intn(2001)-1000)
		}
		what := fmt.Sprint(l)
		loops, _ := loop.Loops(l)
		for _, c := range loops {
			sum, e := loop.Sum(l, c, values)
			expect(t, "loop "+what, results(sum, e), results(0, api.OK))
		}
		x := query("F0", name(1+random.Intn(3)), 0)
		found, _ := loop.All(l, x)
		for _, c := range found {
			sum, e := loop.Sum(l, c, values)
			expect(t, "chain "+what, results(sum, e), results(places[x.To]-places[x.From], api.OK))
			back, _ := loop.Reverse(l, c)
			sum, e = loop.Sum(l, c, others)
			opposite, g := loop.Sum(l, back, others)
			expect(t, "back "+what, results(sum, e, g), results(-opposite, api.OK, api.OK))
		}
	}
}

// Arguments stay as they are, and results share no memory.
func TestMemory(t *testing.T) {
	l := dims("A B, B C, A C, C A, B D, C D")
	c := links("0 1 -2 77")[:3]
	values := []int{1, 2, 3, 4, 5, 6}
	kept := fmt.Sprint(l, c[:4], values)
	back, _ := loop.Reverse(l, c)
	back[0].Dim = 9
	loop.Sum(l, c, values)
	for range 2 {
		found, _ := loop.All(l, query("A", "D", 0))
		loops, _ := loop.Loops(l)
		expect(t, "results", results(found, loops), results(chains("0 1 5, 0 4, 2 -1 4, 2 5, -3 -1 4, -3 5"), chains("2 -1 -0, 3 0 1, 5 -4 1")))
		for _, lists := range [][][]loop.Link{found, loops} {
			for i, c := range lists {
				lists[i] = append(c, loop.Link{Dim: 8})
				lists[i][0].Dim = 9
			}
		}
	}
	expect(t, "arguments", results(fmt.Sprint(l, c[:4], values)), results(kept))
}
