package complete_test

import (
	"fmt"
	"math/rand"
	"slices"
	"testing"

	"metrolab/api"
	"metrolab/complete"
	"metrolab/drawing"
)

// some returns a few dimensions between a few names, most of them along one axis.
func some(random *rand.Rand, n int) []api.Dimension {
	var l []api.Dimension
	names := []string{"A", "C", "B", "b", "A1"}[:2+random.Intn(4)]
	for range random.Intn(n) {
		p := random.Perm(len(names))
		low := random.Intn(7) - 3
		l = append(l, of(names[p[0]], names[p[1]], max(0, random.Intn(8)-5), low, low+random.Intn(4)))
	}
	return l
}

// known computes names, and distances between them by all paths of any length: far[a][b] is how far b is behind a at most.
// It reports whether no loop contradicts.
func known(l []api.Dimension, axis int) ([]string, map[string]map[string]int, bool) {
	far := map[string]map[string]int{}
	var names []string
	see := func(name string) {
		if far[name] == nil {
			far[name] = map[string]int{name: 0}
			names = append(names, name)
		}
	}
	nearer := func(a, b string, most int) {
		if d, ok := far[a][b]; !ok || most < d {
			far[a][b] = most
		}
	}
	for _, d := range l {
		if d.Axis == axis {
			see(d.From)
			see(d.To)
			nearer(d.From, d.To, d.Limits.High)
			nearer(d.To, d.From, -d.Limits.Low)
		}
	}
	for _, b := range names {
		for _, a := range names {
			for _, c := range names {
				x, first := far[a][b]
				y, second := far[b][c]
				if first && second {
					nearer(a, c, x+y)
				}
			}
		}
	}
	slices.Sort(names)
	return names, far, !slices.ContainsFunc(names, func(name string) bool { return far[name][name] < 0 })
}

// P22.1 and P22.2, for any lists.
func TestAny(t *testing.T) {
	random := rand.New(rand.NewSource(1))
	count := map[bool]int{}
	for range 4000 {
		l := some(random, 9)
		for axis := range api.Axes {
			count[same(t, l, axis)]++
		}
	}
	if count[true] < 1000 || count[false] < 1000 {
		t.Errorf("%v", count)
	}
}

// same compares all results for a list with what is known, and returns whether no loop contradicts.
func same(t *testing.T, l []api.Dimension, axis int) bool {
	what := fmt.Sprint(l, axis)
	names, far, right := known(l, axis)
	got, e := complete.Names(l, axis)
	expect(t, "Names "+what, results(got, e), results(names, api.OK))
	var groups [][]string
	var want []complete.Position
	for _, name := range names {
		first := name
		for other := range far[name] {
			first = min(first, other)
		}
		if first == name {
			groups = append(groups, nil)
		}
		for i, group := range groups {
			if first == name && group == nil || group != nil && group[0] == first {
				groups[i] = append(groups[i], name)
			}
		}
		want = append(want, complete.Position{Name: name, At: far[first][name]})
	}
	got2, e := complete.Groups(l, axis)
	expect(t, "Groups "+what, results(got2, e), results(groups, api.OK))
	var redundant, implied []int
	for i, d := range l {
		if d.Axis != axis {
			continue
		}
		if _, before, _ := known(l[:i], axis); has(before, d) {
			redundant = append(redundant, i)
		}
		_, less, _ := known(slices.Delete(slices.Clone(l), i, i+1), axis)
		if has(less, d) && less[d.From][d.To] <= d.Limits.High && less[d.To][d.From] <= -d.Limits.Low {
			implied = append(implied, i)
		}
	}
	got3, e := complete.Redundant(l, axis)
	expect(t, "Redundant "+what, results(got3, e), results(redundant, api.OK))
	positions, loop, ok, e := complete.Solve(l, axis)
	got4, g := complete.Implied(l, axis)
	if !right {
		expect(t, "Solve "+what, results(positions, ok, e, complete.Verify(l, axis, loop), contradicts(l, axis, loop)), results([]int{}, false, api.OK, api.OK, true))
		expect(t, "Implied "+what, results(got4, g), results([]int{}, api.ErrConflict))
	} else {
		expect(t, "Solve "+what, results(positions, loop, ok, e), results(want, []int{}, true, api.OK))
		expect(t, "Implied "+what, results(got4, g), results(implied, api.OK))
	}
	for _, a := range append(names, "X") {
		for _, b := range append(names, "X") {
			d, e := complete.Distance(l, a, b, axis)
			most, joined := far[a][b]
			switch {
			case a == "X" || b == "X":
				expect(t, "Distance "+what, results(d, e), results(nothing, api.ErrNone))
			case a == b:
				expect(t, "Distance "+what, results(d, e), results(nothing, api.ErrTwice))
			case !joined:
				expect(t, "Distance "+what, results(d, e), results(nothing, api.ErrEmpty))
			case !right:
				expect(t, "Distance "+what, results(d, e), results(nothing, api.ErrConflict))
			default:
				expect(t, "Distance "+what, results(d, e), results(limits(-far[b][a], most), api.OK))
			}
		}
	}
	return right
}

// has reports whether both ends of a dimension are in one group.
func has(far map[string]map[string]int, d api.Dimension) bool {
	_, ok := far[d.From][d.To]
	return ok
}

// contradicts reports whether a loop contradicts, straight by the definition.
func contradicts(l []api.Dimension, axis int, loop []complete.Step) bool {
	excess, place := 0, ""
	begins := map[string]bool{}
	for i, s := range append(slices.Clone(loop), loop[0]) {
		d := l[s.Index]
		from, to, most := d.From, d.To, d.Limits.High
		if s.Back {
			from, to, most = to, from, -d.Limits.Low
		}
		if d.Axis != axis || i > 0 && from != place || i < len(loop) && begins[from] {
			return false
		}
		begins[from], place = true, to
		if i < len(loop) {
			excess += most
		}
	}
	return excess < 0
}

// keep reports whether positions keep all dimensions along an axis.
func keep(l []api.Dimension, axis int, at map[string]int) bool {
	return !slices.ContainsFunc(l, func(d api.Dimension) bool {
		far := at[d.To] - at[d.From]
		return d.Axis == axis && (far < d.Limits.Low || far > d.Limits.High)
	})
}

// P22.2 and P22.3: distances are those of all positions that keep all dimensions, and both of their ends are attained.
func TestPositions(t *testing.T) {
	random := rand.New(rand.NewSource(2))
	conflicts := 0
	for range 300 {
		var l []api.Dimension
		for range 3 + random.Intn(3) {
			p := random.Perm(4)
			low := random.Intn(5) - 2
			l = append(l, of(string(rune('A'+p[0])), string(rune('A'+p[1])), 0, low, low+random.Intn(3)))
		}
		names, _ := complete.Names(l, 0)
		if groups, _ := complete.Groups(l, 0); len(groups) != 1 {
			continue
		}
		// All distances are from -12 to 12, as three dimensions make a way of 4 each.
		found := map[[2]string]api.Limits{}
		at := map[string]int{}
		var try func(i int)
		try = func(i int) {
			if i == len(names) {
				if !keep(l, 0, at) {
					return
				}
				for _, a := range names {
					for _, b := range names {
						far := at[b] - at[a]
						d, ok := found[[2]string{a, b}]
						if !ok {
							d = limits(far, far)
						}
						found[[2]string{a, b}] = limits(min(d.Low, far), max(d.High, far))
					}
				}
				return
			}
			for x := -12; x <= 12; x++ {
				at[names[i]] = x
				try(i + 1)
			}
		}
		at[names[0]] = 0
		try(1)
		for _, a := range names {
			for _, b := range names {
				if a == b {
					continue
				}
				d, e := complete.Distance(l, a, b, 0)
				if len(found) == 0 {
					conflicts++
					expect(t, fmt.Sprint(l, a, b), results(d, e), results(nothing, api.ErrConflict))
				} else {
					expect(t, fmt.Sprint(l, a, b), results(d, e), results(found[[2]string{a, b}], api.OK))
				}
			}
		}
	}
	if conflicts < 20 {
		t.Errorf("only %d", conflicts)
	}
}

// P22.3: the other consequences.
func TestConsequences(t *testing.T) {
	random := rand.New(rand.NewSource(3))
	left := 0
	for range 3000 {
		l := some(random, 9)
		what := fmt.Sprint(l)
		names, _ := complete.Names(l, 0)
		groups, _ := complete.Groups(l, 0)
		redundant, _ := complete.Redundant(l, 0)
		along := slices.DeleteFunc(slices.Clone(l), func(d api.Dimension) bool { return d.Axis != 0 })
		expect(t, what, results(len(redundant)), results(len(along)-len(names)+len(groups)))
		positions, loop, ok, _ := complete.Solve(l, 0)
		if !ok {
			expect(t, what, results(complete.Verify(l, 0, loop)), results(api.OK))
			continue
		}
		mirror := slices.Clone(l)
		for i, d := range l {
			mirror[i].Limits = limits(-d.Limits.High, -d.Limits.Low)
		}
		mirrored, _, other, _ := complete.Solve(mirror, 0)
		most, least := map[string]int{}, map[string]int{}
		for i, p := range positions {
			most[p.Name], least[p.Name] = p.At, -mirrored[i].At
		}
		expect(t, what, results(keep(l, 0, most), keep(l, 0, least), other), results(true, true, true))
		for _, d := range along {
			far, e := complete.Distance(l, d.From, d.To, 0)
			back, g := complete.Distance(l, d.To, d.From, 0)
			expect(t, what, results(e, g, back, d.Limits.Low <= far.Low && far.High <= d.Limits.High), results(api.OK, api.OK, limits(-far.High, -far.Low), true))
		}
		for _, group := range groups {
			for _, name := range group[1:] {
				far, e := complete.Distance(l, group[0], name, 0)
				expect(t, what, results(far, e), results(limits(least[name], most[name]), api.OK))
			}
		}
		implied, _ := complete.Implied(l, 0)
		for _, i := range implied {
			less := slices.Delete(slices.Clone(l), i, i+1)
			for _, a := range names {
				for _, b := range names {
					one, e := complete.Distance(l, a, b, 0)
					two, g := complete.Distance(less, a, b, 0)
					expect(t, what, results(two, g), results(one, e))
				}
			}
			left++
		}
	}
	if left < 200 {
		t.Errorf("only %d", left)
	}
}

// P22.1

func TestLacking(t *testing.T) {
	at := func(name string, kind, axis int) api.Feature {
		f := api.Feature{Name: name, Kind: kind, Axis: axis}
		if kind != api.KindPlane {
			f.Size = limits(1, 200000/2)
		}
		return f
	}
	// Along x the planes A and B, the hole H, the pin P and the ball W are bounded; the slot S and the hole V are not.
	d := api.Drawing{Name: "D", Features: []api.Feature{
		at("A", api.KindPlane, 0), at("B", api.KindPlane, 0), at("H", api.KindHole, 2), at("P", api.KindPin, 1), at("S", api.KindSlot, 1), at("V", api.KindHole, 0), at("W", api.KindBall, 0),
	}}
	d.Features[6].At.X = -100000
	for _, x := range []struct {
		l    []api.Dimension
		want [3]int
	}{
		{nil, [3]int{4, 3, 2}},
		{[]api.Dimension{of("A", "B", 0, 0, 0)}, [3]int{3, 3, 2}},
		{[]api.Dimension{of("A", "B", 0, 0, 0), of("A", "B", 0, 0, 1), of("B", "A", 0, 0, 0)}, [3]int{3, 3, 2}},
		{[]api.Dimension{of("A", "B", 0, 0, 0), of("H", "P", 0, 0, 0), of("H", "S", 1, 0, 0)}, [3]int{2, 2, 2}},
		{[]api.Dimension{of("A", "B", 0, 0, 0), of("A", "P", 0, 0, 0), of("B", "H", 0, 0, 0), of("H", "P", 0, 0, 0)}, [3]int{1, 3, 2}},
		{[]api.Dimension{of("B", "A", 0, 0, 0), of("P", "B", 0, 0, 0), of("W", "H", 0, 0, 100000), of("W", "P", 0, 100000, 100000)}, [3]int{0, 3, 2}},
		{[]api.Dimension{of("H", "S", 1, 0, 0), of("H", "V", 1, 0, 0), of("P", "V", 2, 0, 0), of("P", "W", 2, 0, 0), of("V", "W", 1, 0, 0)}, [3]int{4, 0, 0}},
	} {
		d.Dimensions = x.l
		for axis := range 3 {
			n, e := complete.Lacking(d, axis)
			expect(t, fmt.Sprint("Lacking ", axis, x.l), results(n, e), results(x.want[axis], api.OK))
		}
	}
	d.Features, d.Dimensions = d.Features[:1], nil
	for axis := range 3 {
		n, e := complete.Lacking(d, axis)
		none, g := complete.Lacking(api.Drawing{Name: "D"}, axis)
		expect(t, "Lacking", results(n, e, none, g), results(0, api.OK, 0, api.OK))
	}
	wrong := api.Drawing{Name: "D", Features: d.Features, Dimensions: []api.Dimension{of("A", "B", 0, 0, 0)}}
	for _, axis := range []int{-1, 3, 0} {
		n, e := complete.Lacking(wrong, axis)
		expect(t, "Lacking", results(n, e), results(0, api.ErrNone))
		n, e = complete.Lacking(api.Drawing{}, axis)
		expect(t, "Lacking", results(n, e), results(0, api.ErrForm))
		if axis != 0 {
			n, e = complete.Lacking(d, axis)
			expect(t, "Lacking", results(n, e), results(0, api.ErrArg))
		}
	}
	_, e := drawing.Nominal(d, "A", "A", 0)
	expect(t, "the drawing", results(e), results(api.OK))
}

// P22.1 and P22.2: arguments remain as they are, and results share no memory.
func TestMemory(t *testing.T) {
	all := append(mixed(), of("B", "C", 2, 9, 9))
	l := all[:10]
	before := fmt.Sprint(all)
	for range 2 {
		names, _ := complete.Names(l, 0)
		groups, _ := complete.Groups(l, 0)
		redundant, _ := complete.Redundant(l, 0)
		positions, _, _, _ := complete.Solve(l, 0)
		_, loop, _, _ := complete.Solve(all, 2)
		implied, _ := complete.Implied(l, 0)
		expect(t, "results", results(names[1], groups[1], redundant, positions[1], len(loop), implied), results("B", []string{"B", "F"}, []int{5, 6, 8}, complete.Position{Name: "B"}, 2, []int{5, 6, 8}))
		twice := slices.Clone(loop)
		expect(t, "Verify", results(complete.Verify(all, 2, loop), loop), results(api.OK, twice))
		for i, group := range groups {
			rest := group[:cap(group)]
			clear(rest)
			if i > 0 && len(groups[i-1]) == 0 {
				t.Error("no group")
			}
		}
		clear(names)
		clear(redundant)
		clear(positions)
		clear(loop)
		clear(implied)
		expect(t, "the list", results(fmt.Sprint(all)), results(before))
	}
}
