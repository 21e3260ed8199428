package search

import (
	"slices"

	"pennyweight/ac"
	"pennyweight/api"
	"pennyweight/check"
	"pennyweight/dac"
	"pennyweight/edac"
	"pennyweight/elim"
	"pennyweight/move"
	"pennyweight/nc"
	"pennyweight/soft"
	"pennyweight/state"
)

func (r *run) visit(t task) {
	r.enter(t)
	near := r.Near(t.variable) // asked now, as some may be killed on the way
	if !r.reduce() {
		r.blame(near)
		return
	}
	r.probe()
	r.branch()
}

// enter makes the state be that of the task, with a mark behind which it can be
// left again.
func (r *run) enter(t task) {
	r.Undo(t.depth) // an error where nothing was done since
	switch {
	case t == whole:
	case t.others:
		// It is the last one of its variable, so that nobody comes back to what
		// was ahead of it: no mark.
		r.Drop(t.variable, t.value)
	default:
		r.Mark()
		move.Assign(r.State, t.variable, t.value)
	}
}

// reduce makes the state be of the level, and as little as it can be beside that:
// false, if no assignment of it costs less than the best. With true Zero is the bound.
func (r *run) reduce() bool {
	for r.enforce() == api.OK {
		r.lower()
		if r.Zero() >= r.cost {
			return false
		}
		if !r.cut() && !r.spend() && !r.takeOut() {
			return true
		}
	}
	return false
}

func (r *run) enforce() api.Errno {
	calls := [...]func(s *state.State) api.Errno{
		check.None: nothing,
		check.NC:   nc.Enforce,
		check.AC:   ac.Enforce,
		check.FDAC: dac.Enforce,
		check.EDAC: edac.Enforce,
	}
	return calls[r.Level](r.State)
}

func nothing(*state.State) api.Errno { return api.OK }

// lower finds something only where the level is none. It goes ahead of taking out, by
// which what a variable costs at least may come to stand where no bound counts it.
func (r *run) lower() {
	for i := range r.N() {
		c, _, _ := soft.Least(r.State, i)
		move.Lower(r.State, i, c)
	}
}

// cut drops each value with which all costs no less than the best: was there one?
// The cheapest one of each variable stays.
func (r *run) cut() bool {
	dropped := false
	for i := range r.N() {
		if r.Gone(i) {
			continue
		}
		for v := range r.Dom(i).Values() {
			if r.lowWith(i, v) >= r.cost {
				r.Drop(i, v)
				dropped = true
			}
		}
	}
	return dropped
}

// lowWith is the bound, if i has the value v alone.
func (r *run) lowWith(i, v int) int64 {
	c, _ := r.Unary(i, v)
	return r.Zero() + c
}

// spend kills each function that no more than one variable of has a choice, when
// all that it costs was moved to that one's values: was anything moved? So what is
// decided counts for the bound, whatever the level is, and the others' degrees fall.
func (r *run) spend() bool {
	moved := false
	for j := range r.Funs() {
		pos, alone := r.choice(j)
		if !alone || !r.Live(j) {
			continue
		}
		for v := range r.Dom(r.Scope(j)[pos]).Values() {
			c, _ := move.Room(r.State, j, pos, v)
			if c > 0 && move.Project(r.State, j, pos, v, c) == api.OK {
				moved = true
			}
		}
		r.Kill(j)
	}
	return moved
}

// choice is the place in the function j of the variable that has more than one
// value left (of none the first place): false, if there are several.
func (r *run) choice(j int) (int, bool) {
	at, many := 0, 0
	for pos, i := range r.Scope(j) {
		if r.Dom(i).Len() > 1 {
			at, many = pos, many+1
		}
	}
	return at, many <= 1
}

// takeOut needs not ask for a Degree of -1: of that nobody is taken out.
func (r *run) takeOut() bool {
	out, _ := elim.All(r.State, r.Degree)
	return len(out) > 0
}

// probe tries the cheapest value of each variable: where none has a choice any
// more, that is all there is.
func (r *run) probe() {
	a := make([]int, r.N())
	for i := range a {
		_, a[i], _ = soft.Least(r.State, i)
	}
	a, _ = elim.Rebuild(r.State, a)
	c, e := r.Net().Val(a)
	if e != api.OK || c >= r.cost {
		return
	}
	r.best, r.cost = a, c
	r.tasks = slices.DeleteFunc(r.tasks, func(t task) bool { return t.low >= c })
}

// blame makes functions weigh more, by which a variable's value came to nothing.
func (r *run) blame(funs []int) {
	for _, j := range funs {
		r.weights.Bump(j, 1)
	}
}
