package state_test

import (
	"math"
	"slices"
	"testing"

	"pennyweight/api"
	"pennyweight/state"
)

func undo(t *testing.T, s *state.State, m int) {
	t.Helper()
	if e := s.Undo(m); e != api.OK || s.Depth() != m {
		t.Fatalf("Undo(%d): error %d, then %d are open", m, e, s.Depth())
	}
}

// changes are calls of each kind that sets something, on a state of three.
func changes(t *testing.T, s *state.State) []func() {
	t.Helper()
	return []func(){
		func() { ok(t, s.SetZero(9)) },
		func() { ok(t, s.SetUnary(1, 0, 5)) },
		func() { ok(t, s.SetCost(0, []int{1, 1}, 7)) },
		func() { ok(t, s.Drop(1, 1)) },
		func() { add(t, s, fill(t, 9, 3, 2, 2), 0, 2) },
		func() { ok(t, s.SetCost(2, []int{1, 1}, 8)) },
		func() { ok(t, s.Kill(1)) },
		func() { ok(t, s.Kill(2)) },
		func() { ok(t, s.Remove(state.Elim{Var: 2, Scope: []int{0}, Best: []int{1, -1}})) },
		func() { ok(t, s.Drop(2, 0)) },
		func() { ok(t, s.SetUnary(2, 1, 0)) },
		func() { ok(t, s.Kill(0)) },
		func() { ok(t, s.Remove(state.Elim{Var: 0, Scope: []int{1}, Best: []int{1, 0, -1}})) },
		func() { ok(t, s.SetZero(0)) },
	}
}

// Each is undone alone, with all those ahead of it done already.
func TestUndoOfEach(t *testing.T) {
	for n := range changes(t, nil) {
		s := made(t, three)
		for m, change := range changes(t, s)[:n+1] {
			if m == n {
				before := look(t, s)
				mark(t, s)
				change()
				undo(t, s, 0)
				alike(t, "undone", look(t, s), before)
				if e := s.Undo(0); e != api.ErrNone {
					t.Errorf("undone again: error %d", e)
				}
				alike(t, "undone again", look(t, s), before)
			}
			change()
		}
	}
}

// With a mark ahead of each, they are undone one by one, or several at once.
func TestUndoOfMany(t *testing.T) {
	for step := 1; step <= 14; step++ {
		s := made(t, three)
		var were []told
		for _, change := range changes(t, s) {
			were = append(were, look(t, s))
			mark(t, s)
			change()
		}
		for m := len(were); m > 0; {
			for _, x := range []int{m, m + 1, -1, math.MaxInt, math.MinInt} {
				before := look(t, s)
				if e := s.Undo(x); e != api.ErrNone {
					t.Errorf("Undo(%d) with %d open: error %d", x, m, e)
				}
				alike(t, "refused", look(t, s), before)
			}
			m = max(m-step, 0)
			undo(t, s, m)
			alike(t, "undone", look(t, s), were[m])
		}
	}
}

func TestUndoOfNothing(t *testing.T) {
	s := made(t, three)
	for _, change := range changes(t, s)[:10] {
		change()
	}
	before := look(t, s)
	for _, m := range []int{0, 1, -1, math.MaxInt, math.MinInt} {
		if e := s.Undo(m); e != api.ErrNone {
			t.Errorf("Undo(%d): error %d", m, e)
		}
	}
	alike(t, "no mark is open", look(t, s), before)
	for range 3 {
		mark(t, s)
	}
	undo(t, s, 1)
	undo(t, s, 0)
	alike(t, "nothing was changed", look(t, s), before)
}

func TestFunctionsThatAreUndone(t *testing.T) {
	s := made(t, three)
	two := fill(t, 9, 3, 2, 2)
	add(t, s, two, 0, 2)
	mark(t, s)
	add(t, s, two, 0, 2)
	mark(t, s)
	add(t, s, fill(t, 9, 1, 3, 2), 1, 2)
	ok(t, s.Kill(3))
	ok(t, s.SetCost(2, []int{0, 0}, 0))
	undo(t, s, 0)
	for _, j := range []int{3, 4} {
		if c, e := s.Cost(j, []int{0, 0}); s.Live(j) || len(s.Scope(j)) != 0 || c != 0 || e != api.ErrArg || s.Kill(j) != api.ErrArg || s.SetCost(j, []int{0, 0}, 1) != api.ErrArg {
			t.Errorf("function %d: %v, %v, %d, error %d", j, s.Live(j), s.Scope(j), c, e)
		}
	}
	if s.Funs() != 3 || !slices.Equal(s.Near(2), []int{1, 2}) || s.Find([]int{1, 2}) != -1 || s.Find([]int{0, 2}) != 2 || costOf(t, s, 2, 0, 0) != 3 {
		t.Errorf("%v", look(t, s))
	}
	// Others of these numbers are nothing of what was there.
	add(t, s, fill(t, 9, 4, 3, 2), 1, 2)
	if costOf(t, s, 3, 2, 1) != 4 || costOf(t, s, 3, 0, 0) != 4 || !slices.Equal(s.Near(1), []int{0, 1, 3}) {
		t.Errorf("%v", look(t, s))
	}
	ok(t, s.Kill(3))
	add(t, s, two, 0, 2)
	if s.Find([]int{0, 2}) != 2 || costOf(t, s, 4, 1, 1) != 3 || !slices.Equal(s.Near(2), []int{1, 2, 4}) {
		t.Errorf("%v", look(t, s))
	}
}

func TestElimsThatAreUndone(t *testing.T) {
	s := made(t, "t 3 2 0 9 2 2 2")
	ok(t, s.Remove(state.Elim{Var: 1, Best: []int{1}}))
	mark(t, s)
	ok(t, s.Remove(state.Elim{Var: 0, Scope: []int{2}, Best: []int{0, 1}}))
	was := s.Elims()
	undo(t, s, 0)
	if l := s.Elims(); len(l) != 1 || l[0].Var != 1 || !s.Gone(1) || s.Gone(0) {
		t.Errorf("%v", l)
	}
	ok(t, s.Remove(state.Elim{Var: 2, Best: []int{0}}))
	if l := s.Elims(); len(l) != 2 || l[1].Var != 2 || was[1].Var != 0 || !slices.Equal(was[1].Best, []int{0, 1}) {
		t.Errorf("%v; told ahead: %v", l, was)
	}
}
