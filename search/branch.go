package search

import (
	"cmp"
	"slices"

	"pennyweight/ratio"
)

// branch leaves the parts of the next variable to be visited, if there is one: the
// first one is put in last.
func (r *run) branch() {
	i := r.next()
	if i < 0 {
		return
	}
	for _, t := range slices.Backward(r.parts(i)) {
		if t.low < r.cost {
			r.tasks = append(r.tasks, t)
		}
	}
}

// next is the variable that is to be parted: -1, if none has a choice any more. One
// that has none needs no node, so that each node has two parts or is the last one.
func (r *run) next() int {
	r.weights.Grow(r.Funs())
	var vars []int
	var urgent []float64
	for i := range r.N() {
		if !r.Gone(i) && r.Dom(i).Len() > 1 {
			vars, urgent = append(vars, i), append(urgent, r.urgency(i))
		}
	}
	if len(vars) == 0 {
		return -1
	}
	return vars[ratio.First(urgent)]
}

// urgency is the less the more urgent, and the same of all, where the first one is
// next.
func (r *run) urgency(i int) float64 {
	size := r.Dom(i).Len()
	switch r.Order {
	case ByDomain:
		return float64(size)
	case ByWeight:
		return ratio.Ratio(size, r.weights.Sum(r.Near(i)))
	}
	return 0
}

// parts are those of i's values, in order: each alone, or the first one and all others.
func (r *run) parts(i int) []task {
	var l []task
	for _, v := range r.values(i) {
		l = append(l, task{depth: r.Depth(), variable: i, value: v, low: r.lowWith(i, v)})
	}
	if !r.Split {
		return l
	}
	others := slices.MinFunc(l[1:], func(a, b task) int { return cmp.Compare(a.low, b.low) })
	others.value, others.others = l[0].value, true
	return []task{l[0], others}
}

// values are those of i that are left, in the order in which they are tried.
func (r *run) values(i int) []int {
	l := slices.Collect(r.Dom(i).Values())
	if r.Value == Cheapest {
		slices.SortStableFunc(l, func(v, w int) int { return cmp.Compare(r.lowWith(i, v), r.lowWith(i, w)) })
	}
	return l
}
