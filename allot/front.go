package allot

import (
	"iter"
	"slices"
	"sort"

	"metrolab/api"
	"metrolab/checks"
)

// front is a list of widths with costs in ascending order of the widths, and descending order of the costs.
type front []Choice

// none is the front of the picks for no parts.
func none() front { return front{{}} }

// join returns the front of the picks for a part and for those of another front, up to a greatest width.
func (f front) join(p Part, most int) front {
	var joined front
	for i := range p.Choices {
		// Made at once with enough room, as appending would copy long fronts again and again.
		next := make(front, 0, len(joined)+len(f))
		for x := range merge(joined, f, p.choice(i)) {
			if x.Width > most {
				break
			}
			if len(next) == 0 || x.Cost < next[len(next)-1].Cost {
				next = append(next, x)
			}
		}
		joined = next
	}
	return joined
}

// merge yields the elements of two fronts in ascending order of the widths, and of the costs for equal widths.
// All of the second one are more by a choice.
func merge(a, b front, more Choice) iter.Seq[Choice] {
	return func(yield func(Choice) bool) {
		i := 0
		for _, x := range b {
			x = x.plus(more)
			for ; i < len(a) && a[i].before(x); i++ {
				if !yield(a[i]) {
					return
				}
			}
			if !yield(x) {
				return
			}
		}
		for ; i < len(a); i++ {
			if !yield(a[i]) {
				return
			}
		}
	}
}

func (c Choice) before(d Choice) bool {
	return c.Width < d.Width || c.Width == d.Width && c.Cost < d.Cost
}

// least returns the least cost of the elements up to a width, and whether there is one.
func (f front) least(width int) (int, bool) {
	after := sort.Search(len(f), func(i int) bool { return f[i].Width > width })
	if after == 0 {
		return 0, false
	}
	return f[after-1].Cost, true
}

// fronts yields the fronts of the picks for no parts, for the last part, for the last two, and so on to all of a task.
// Each one is without the picks with which all parts would take up more than a greatest width.
func (t Task) fronts(most int) iter.Seq[front] {
	return func(yield func(front) bool) {
		least, _ := reach(t.Parts...)
		room, rest := most-least, none()
		for _, p := range slices.Backward(t.Parts) {
			if !yield(rest) {
				return
			}
			own, _ := reach(p)
			room += own
			rest = rest.join(p, room)
		}
		yield(rest)
	}
}

// front returns the front of all picks of a task up to a greatest width.
func (t Task) front(most int) front {
	var all front
	for f := range t.fronts(most) {
		all = f
	}
	return all
}

// Front returns the widths and costs of the picks that no other one surpasses.
func Front(t Task) ([][2]int, api.Errno) {
	if e := Check(t); e != api.OK {
		return nil, e
	}
	// The beginning of a front alone is found much faster where the front is far too long.
	least, greatest := reach(t.Parts...)
	for room := api.MaxFound; ; room *= 2 {
		all := t.front(least + room)
		if len(all) > api.MaxFound {
			return nil, api.ErrLimit
		}
		if least+room >= greatest {
			return all.pairs(), api.OK
		}
	}
}

// pairs returns the widths and costs of a front.
func (f front) pairs() [][2]int {
	var l [][2]int
	for _, x := range f {
		l = append(l, [2]int{x.Width, x.Cost})
	}
	return l
}

// Worth returns by how much the least cost falls if more width is permitted.
func Worth(t Task, more int) (int, api.Errno) {
	if e := checks.First(
		checks.Each(Check, t),
		checks.When(more < 0 || more > api.MaxTotal-t.Most, api.ErrRange),
	); e != api.OK {
		return 0, e
	}
	all := t.front(t.Most + more)
	before, ok := all.least(t.Most)
	if !ok {
		return 0, api.ErrNone
	}
	after, _ := all.least(t.Most + more)
	return before - after, api.OK
}
