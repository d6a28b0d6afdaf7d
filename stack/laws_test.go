package stack_test

import (
	"fmt"
	"math/rand"
	"reflect"
	"slices"
	"strconv"
	"testing"

	"metrolab/api"
	"metrolab/loop"
	"metrolab/stack"
)

func name(i int) string { return "F" + strconv.Itoa(i) }

// some returns a task with a chain of a few dimensions, and some dimensions beside it.
func some(random *rand.Rand) stack.Task {
	var t stack.Task
	n := 1 + random.Intn(4)
	ends := n + 1 - random.Intn(2) // one feature less makes the chain closed
	if n == 1 {
		ends = 2
	}
	places := random.Perm(n + random.Intn(3))
	for range len(places) {
		low := random.Intn(21) - 10
		t.Dimensions = append(t.Dimensions, dim("A", "B", random.Intn(3), low, low+random.Intn(5)))
	}
	for i := range n {
		d := &t.Dimensions[places[i]]
		d.From, d.To, d.Axis = name(i), name((i+1)%ends), 2
		x := loop.Link{Dim: places[i], Back: random.Intn(2) == 0}
		if x.Back {
			d.From, d.To = d.To, d.From
		}
		t.Chain = append(t.Chain, x)
	}
	all, _ := stack.Limits(t)
	low := all.Low + random.Intn(11) - 7
	t.Want = limits(low, low+max(0, all.High-all.Low+random.Intn(11)-6))
	return t
}

// parts calls a function with all parts.
func parts(l []api.Dimension, see func(part []int)) {
	part := make([]int, len(l))
	var choose func(i int)
	choose = func(i int) {
		if i == len(l) {
			see(part)
			return
		}
		for part[i] = l[i].Limits.Low; part[i] <= l[i].Limits.High; part[i]++ {
			choose(i + 1)
		}
	}
	choose(0)
}

// sums returns the sums of all parts, in order.
func sums(t stack.Task) []int {
	found := map[int]bool{}
	parts(t.Dimensions, func(part []int) {
		sum, _ := loop.Sum(t.Dimensions, t.Chain, part)
		found[sum] = true
	})
	var l []int
	for sum := range found {
		l = append(l, sum)
	}
	slices.Sort(l)
	return l
}

// within reports whether all sums of a task are wanted.
func within(t stack.Task) bool {
	all := sums(t)
	return all[0] >= t.Want.Low && all[len(all)-1] <= t.Want.High
}

// fixed returns a task in which a link has limits of its own.
func fixed(t stack.Task, link int, l api.Limits) stack.Task {
	t.Dimensions = slices.Clone(t.Dimensions)
	t.Dimensions[t.Chain[link].Dim].Limits = l
	return t
}

// P25.1 and P25.3: the sums of all parts are the ints between the limits, each attained by its part; dimensions beside the chain have their least value.
func TestSums(t *testing.T) {
	random := rand.New(rand.NewSource(1))
	for range 400 {
		task := some(random)
		what := fmt.Sprint(task)
		all, e := stack.Limits(task)
		low, _ := stack.Attain(task, false)
		high, _ := stack.Attain(task, true)
		shares, _ := stack.Shares(task)
		width := 0
		for _, share := range shares {
			width += share
		}
		expect(t, what, results(e, all.High-all.Low), results(api.OK, width))
		next := low
		for i, sum := range sums(task) {
			part, e := stack.Part(task, sum)
			attained, _ := loop.Sum(task.Dimensions, task.Chain, part)
			expect(t, what, results(sum, attained, e, part), results(all.Low+i, sum, api.OK, next))
			next = step(task, part)
		}
		last, _ := loop.Sum(task.Dimensions, task.Chain, high)
		expect(t, what, results(last, next), results(all.High, []int{}))
	}
}

// step returns the part of the next sum: the first link that is not as far as possible goes on by one. It returns nothing if there is none.
func step(t stack.Task, part []int) []int {
	part = slices.Clone(part)
	for _, x := range t.Chain {
		switch l := t.Dimensions[x.Dim].Limits; {
		case x.Back && part[x.Dim] > l.Low:
			part[x.Dim]--
			return part
		case !x.Back && part[x.Dim] < l.High:
			part[x.Dim]++
			return part
		}
	}
	return nil
}

// P25.2 and P25.3: what is wanted is kept by all parts or not by the one that is returned, and the room of a link has exactly the values with which it is kept.
func TestWanted(t *testing.T) {
	random := rand.New(rand.NewSource(2))
	count := [2]int{}
	rooms := 0
	for range 300 {
		task := some(random)
		what := fmt.Sprint(task)
		all := sums(task)
		low, high, e := stack.Spare(task)
		expect(t, "Spare "+what, results(low, high, e), results(all[0]-task.Want.Low, task.Want.High-all[len(all)-1], api.OK))
		keeps, part, e := stack.Keeps(task)
		expect(t, "Keeps "+what, results(keeps, e), results(within(task), api.OK))
		if keeps {
			count[0]++
			expect(t, "Keeps "+what, results(part), results([]int{}))
		} else {
			count[1]++
			sum, _ := loop.Sum(task.Dimensions, task.Chain, part)
			want, _ := stack.Attain(task, all[0] >= task.Want.Low && all[0] <= task.Want.High)
			expect(t, "Keeps "+what, results(part, sum < task.Want.Low || sum > task.Want.High), results(want, true))
		}
		link := random.Intn(len(task.Chain))
		var values []int
		for v := -80; v <= 80; v++ {
			if within(fixed(task, link, limits(v, v))) {
				values = append(values, v)
			}
		}
		room, e := stack.Room(task, link)
		if len(values) == 0 {
			expect(t, "Room "+what, results(room, e), results(api.Limits{}, api.ErrConflict))
			continue
		}
		rooms++
		expect(t, "Room "+what, results(room, e, len(values)), results(limits(values[0], values[len(values)-1]), api.OK, room.High-room.Low+1))
		keeps, _, e = stack.Keeps(fixed(task, link, room))
		expect(t, "Keeps the room "+what, results(keeps, e), results(true, api.OK))
	}
	if count[0] < 30 || count[1] < 100 || rooms < 150 || rooms > 280 {
		t.Error(count, rooms)
	}
}

// P25.3: backwards the limits are the opposite ones, and two chains that are joined have the sum of the limits.
func TestJoined(t *testing.T) {
	random := rand.New(rand.NewSource(3))
	for range 300 {
		task := some(random)
		what := fmt.Sprint(task)
		all, _ := stack.Limits(task)
		back := task
		back.Chain, _ = loop.Reverse(task.Dimensions, task.Chain)
		opposite, e := stack.Limits(back)
		expect(t, "back "+what, results(opposite, e), results(limits(-all.High, -all.Low), api.OK))
		if at := random.Intn(len(task.Chain)); at > 0 {
			first, second := task, task
			first.Chain, second.Chain = task.Chain[:at], task.Chain[at:]
			a, _ := stack.Limits(first)
			b, _ := stack.Limits(second)
			expect(t, "joined "+what, results(all), results(limits(a.Low+b.Low, a.High+b.High)))
		}
	}
}

// P25.1 and P25.2: no argument is changed, and no result shares memory with another one.
func TestMemory(t *testing.T) {
	task, same := example(), example()
	calls := []func() []int{
		func() []int { part, _ := stack.Attain(task, false); return part },
		func() []int { part, _ := stack.Attain(task, true); return part },
		func() []int { part, _ := stack.Part(task, 14); return part },
		func() []int { shares, _ := stack.Shares(task); return shares },
		func() []int { _, part, _ := stack.Keeps(task); return part },
		func() []int { stack.Limits(task); stack.Spare(task); stack.Room(task, 1); return nil },
	}
	for i, call := range calls {
		got := call()
		want := slices.Clone(got)
		clear(got)
		expect(t, fmt.Sprint("call ", i), results(call(), reflect.DeepEqual(task, same)), results(want, true))
	}
}
