package allot_test

import (
	"fmt"
	"math/rand"
	"reflect"
	"slices"
	"testing"

	"metrolab/allot"
	"metrolab/api"
)

// some returns a task with at most so many parts and choices, whose widths and costs are of so many numbers.
func some(random *rand.Rand, parts, choices, numbers int) allot.Task {
	var x allot.Task
	least, greatest := 0, 0
	for range 1 + random.Intn(parts) {
		p := allot.Part{Weight: 1 + random.Intn(4)}
		var widths []int
		for range 1 + random.Intn(choices) {
			c := allot.Choice{Width: random.Intn(numbers), Cost: random.Intn(numbers)}
			widths = append(widths, p.Weight*c.Width)
			p.Choices = append(p.Choices, c)
		}
		least, greatest = least+slices.Min(widths), greatest+slices.Max(widths)
		x.Parts = append(x.Parts, p)
	}
	x.Most = min(max(0, least-2+random.Intn(greatest-least+4)), api.MaxTotal)
	return x
}

// picks calls a function with all picks, in lexicographic order, and their widths and costs.
func picks(x allot.Task, see func(pick []int, width, cost int)) {
	pick := make([]int, len(x.Parts))
	var choose func(i, width, cost int)
	choose = func(i, width, cost int) {
		if i == len(pick) {
			see(pick, width, cost)
			return
		}
		for j, c := range x.Parts[i].Choices {
			pick[i] = j
			choose(i+1, width+x.Parts[i].Weight*c.Width, cost+c.Cost)
		}
	}
	choose(0, 0, 0)
}

// solve returns the solution of all picks.
func solve(x allot.Task) ([]int, int, api.Errno) {
	var solution []int
	least, e := 0, api.ErrNone
	picks(x, func(pick []int, width, cost int) {
		if width <= x.Most && (e != api.OK || cost < least) {
			solution, least, e = slices.Clone(pick), cost, api.OK
		}
	})
	return solution, least, e
}

// front returns the widths and costs of all picks that no other one surpasses.
func front(x allot.Task) [][2]int {
	var all, front [][2]int
	picks(x, func(pick []int, width, cost int) { all = append(all, [2]int{width, cost}) })
	slices.SortFunc(all, func(a, b [2]int) int { return slices.Compare(a[:], b[:]) })
	for i, a := range slices.Compact(all) {
		if !slices.ContainsFunc(all[:i], func(b [2]int) bool { return b != a && b[0] <= a[0] && b[1] <= a[1] }) {
			front = append(front, a)
		}
	}
	return front
}

// bound returns the bound of a begun pick, word for word.
func bound(x allot.Task, begun []int) (int, api.Errno) {
	width, bound := 0, 0
	least := make([]int, len(x.Parts))
	for i, p := range x.Parts {
		least[i] = p.Weight * slices.MinFunc(p.Choices, func(a, b allot.Choice) int { return a.Width - b.Width }).Width
	}
	for i, j := range begun {
		width += x.Parts[i].Weight * x.Parts[i].Choices[j].Width
		bound += x.Parts[i].Choices[j].Cost
	}
	if len(begun) == len(x.Parts) && width > x.Most {
		return 0, api.ErrNone
	}
	for i := len(begun); i < len(x.Parts); i++ {
		together := width
		for j := len(begun); j < len(x.Parts); j++ {
			if j != i {
				together += least[j]
			}
		}
		var costs []int
		for _, c := range x.Parts[i].Choices {
			if together+x.Parts[i].Weight*c.Width <= x.Most {
				costs = append(costs, c.Cost)
			}
		}
		if len(costs) == 0 {
			return 0, api.ErrNone
		}
		bound += slices.Min(costs)
	}
	return bound, api.OK
}

// P28.1 and P28.2: all results for tasks of which all picks are looked through, with few and with many equal widths and costs.
func TestAll(t *testing.T) {
	random := rand.New(rand.NewSource(1))
	count := map[api.Errno]int{}
	for i := range 1500 {
		x := some(random, 5, 4, []int{4, 30, 100000}[i%3])
		what := fmt.Sprint(x)
		pick, cost, e := allot.Solve(x)
		wantPick, wantCost, wantError := solve(x)
		expect(t, "Solve "+what, results(pick, cost, e), results(wantPick, wantCost, wantError))
		count[e]++
		l, f := allot.Front(x)
		expect(t, "Front "+what, results(l, f), results(front(x), api.OK))
		wider := x
		wider.Most += random.Intn(min(200000, api.MaxTotal-x.Most) + 1)
		worth, g := allot.Worth(x, wider.Most-x.Most)
		if wantError == api.OK {
			_, less, _ := solve(wider)
			expect(t, "Worth "+what, results(worth, g), results(wantCost-less, api.OK))
		} else {
			expect(t, "Worth "+what, results(worth, g), results(0, api.ErrNone))
		}
		picks(x, func(pick []int, width, cost int) {
			w, c, e := allot.Value(x, pick)
			expect(t, fmt.Sprint("Value ", x, pick), results(w, c, e), results(width, cost, api.OK))
			begun := pick[:random.Intn(len(pick)+1)]
			b, e := allot.Bound(x, begun)
			wantBound, wantError := bound(x, begun)
			expect(t, fmt.Sprint("Bound ", x, begun), results(b, e), results(wantBound, wantError))
		})
	}
	if count[api.ErrNone] < 50 || count[api.OK] < 1000 {
		t.Error(count)
	}
}

// rests returns, for each place in the list of parts and each width, the least cost of the parts from there on; what is impossible costs more than any pick.
func rests(x allot.Task) [][]int {
	const impossible = 1 << 40
	rests := make([][]int, len(x.Parts)+1)
	rests[len(x.Parts)] = make([]int, x.Most+1)
	for i := len(x.Parts) - 1; i >= 0; i-- {
		rests[i] = slices.Repeat([]int{impossible}, x.Most+1)
		for _, c := range x.Parts[i].Choices {
			width := c.Width * x.Parts[i].Weight
			for w := width; w <= x.Most; w++ {
				rests[i][w] = min(rests[i][w], c.Cost+rests[i+1][w-width])
			}
		}
	}
	return rests
}

// P28.2: tasks with up to 16 parts of 16 choices, compared with the least costs for each width.
func TestGreat(t *testing.T) {
	random := rand.New(rand.NewSource(2))
	for i := range 60 {
		x := some(random, 16, 16, []int{8, 200}[i%2])
		what := fmt.Sprint(x)
		least := rests(x)
		pick, cost, e := allot.Solve(x)
		if e != api.OK {
			expect(t, "Solve "+what, results(pick, cost, e, least[0][x.Most] >= 1<<40), results([]int{}, 0, api.ErrNone, true))
			continue
		}
		room := x.Most
		for at, choice := range pick {
			first := slices.IndexFunc(x.Parts[at].Choices, func(c allot.Choice) bool {
				left := room - c.Width*x.Parts[at].Weight
				return left >= 0 && c.Cost+least[at+1][left] == least[at][room]
			})
			expect(t, fmt.Sprint("Solve ", x, pick, at), results(choice), results(first))
			room -= x.Parts[at].Choices[choice].Width * x.Parts[at].Weight
		}
		expect(t, "Solve "+what, results(cost), results(least[0][x.Most]))
		narrow := x
		narrow.Most = x.Most * 4 / 5
		worth, e := allot.Worth(narrow, x.Most-narrow.Most)
		if before := least[0][narrow.Most]; before < 1<<40 {
			expect(t, "Worth "+what, results(worth, e), results(before-cost, api.OK))
		} else {
			expect(t, "Worth "+what, results(worth, e), results(0, api.ErrNone))
		}
	}
}

// P28.3: no pick that differs from the solution in one choice or two is permitted and cheaper, and its bounds grow to its cost.
func TestSolution(t *testing.T) {
	random := rand.New(rand.NewSource(3))
	for range 100 {
		x := some(random, 8, 6, 40)
		what := fmt.Sprint(x)
		pick, cost, e := allot.Solve(x)
		if e != api.OK {
			continue
		}
		width, same, e := allot.Value(x, pick)
		expect(t, what, results(width <= x.Most, same, e), results(true, cost, api.OK))
		last := 0
		for i := range len(pick) + 1 {
			bound, e := allot.Bound(x, pick[:i])
			expect(t, "Bound "+what, results(bound >= last, e), results(true, api.OK))
			last = bound
		}
		expect(t, "the last bound "+what, results(last), results(cost))
		for i := range pick {
			for j := range i + 1 {
				others(x, pick, i, j, func(other []int) {
					width, less, e := allot.Value(x, other)
					expect(t, fmt.Sprint("beside ", x, other), results(e, width <= x.Most && less < cost), results(api.OK, false))
				})
			}
		}
	}
}

// others calls a function with all picks that differ in two places at most.
func others(x allot.Task, pick []int, i, j int, see func(other []int)) {
	for k := range x.Parts[i].Choices {
		for l := range x.Parts[j].Choices {
			other := slices.Clone(pick)
			other[i], other[j] = k, l
			see(other)
		}
	}
}

// P28.3: the least cost is that of the last pair of the front that is permitted; what more width is worth adds up.
func TestWidths(t *testing.T) {
	random := rand.New(rand.NewSource(4))
	for range 300 {
		x := some(random, 6, 5, 60)
		what := fmt.Sprint(x)
		l, _ := allot.Front(x)
		last, e := 0, api.ErrNone
		for _, pair := range l {
			if pair[0] <= x.Most {
				last, e = pair[1], api.OK
			}
		}
		_, cost, f := allot.Solve(x)
		expect(t, what, results(cost, f), results(last, e))
		if e != api.OK {
			continue
		}
		a, b := random.Intn(100), random.Intn(100)
		wider := x
		wider.Most += a
		first, _ := allot.Worth(x, a)
		second, _ := allot.Worth(wider, b)
		both, e := allot.Worth(x, a+b)
		expect(t, what, results(first >= 0, second >= 0, both, e), results(true, true, first+second, api.OK))
	}
}

// P28.1 and P28.2: no argument is changed, and no result shares memory with another one.
func TestMemory(t *testing.T) {
	x, same := example(50), example(50)
	pick, begun := []int{0, 1, 7}, []int{0, 1, 7}
	for i := range 2 {
		solution, cost, e := allot.Solve(x)
		expect(t, fmt.Sprint("Solve ", i), results(solution, cost, e), results([]int{0, 1}, 6, api.OK))
		clear(solution)
		l, e := allot.Front(x)
		expect(t, fmt.Sprint("Front ", i), results(l, e), results([][2]int{{30, 13}, {40, 9}, {50, 6}, {70, 3}}, api.OK))
		clear(l)
		allot.Check(x)
		allot.Value(x, pick[:2])
		allot.Bound(x, pick[:1])
		allot.Worth(x, 10)
	}
	expect(t, "arguments", results(reflect.DeepEqual(x, same), pick), results(true, begun))
}
