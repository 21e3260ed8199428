package state_test

import (
	"slices"
	"testing"

	"pennyweight/state"
)

// Each pair is brought to the same by other calls.
func TestFactsThatAreTheSame(t *testing.T) {
	two := fill(t, 9, 3, 2, 2)
	for what, x := range map[string][2]func(s *state.State){
		"nothing":         {func(s *state.State) {}, func(s *state.State) {}},
		"a mark":          {func(s *state.State) {}, func(s *state.State) { s.Mark() }},
		"there and back":  {func(s *state.State) {}, func(s *state.State) { s.SetZero(4); s.SetUnary(0, 1, 3); s.SetUnary(0, 1, 0); s.SetZero(1) }},
		"undone":          {func(s *state.State) {}, func(s *state.State) { s.Mark(); s.Kill(0); s.Drop(0, 0); s.Add([]int{0, 2}, two); s.Undo(0) }},
		"another order":   {func(s *state.State) { s.Drop(0, 1); s.SetZero(3); s.Kill(1) }, func(s *state.State) { s.Kill(1); s.SetZero(3); s.Drop(0, 1) }},
		"dropped twice":   {func(s *state.State) { s.Drop(1, 2) }, func(s *state.State) { s.Drop(1, 2); s.Drop(1, 2) }},
		"a dropped value": {func(s *state.State) { s.Drop(1, 2) }, func(s *state.State) { s.SetUnary(1, 2, 0); s.Drop(1, 2); s.SetUnary(1, 2, 5) }},
		"tuples of it": {func(s *state.State) { s.Drop(1, 2) }, func(s *state.State) {
			s.SetCost(0, []int{0, 2}, 4)
			s.Drop(1, 2)
			s.SetCost(1, []int{1, 2, 1}, 4)
		}},
		"tuples of no value": {func(s *state.State) { s.Drop(0, 0); s.Drop(0, 1) }, func(s *state.State) {
			s.Drop(0, 1)
			s.SetCost(0, []int{1, 1}, 4)
			s.SetCost(1, []int{0, 1, 1}, 9)
			s.Drop(0, 0)
		}},
		"costs of one that is killed": {func(s *state.State) { s.Kill(0) }, func(s *state.State) { s.SetCost(0, []int{0, 0}, 9); s.Kill(0) }},
		"added and killed":            {func(s *state.State) {}, func(s *state.State) { j, _ := s.Add([]int{0, 2}, two); s.Kill(j) }},
		"by another number": {func(s *state.State) { s.Add([]int{0, 2}, two) }, func(s *state.State) {
			j, _ := s.Add([]int{1, 2}, fill(t, 9, 1, 3, 2))
			s.Add([]int{0, 2}, two)
			s.Kill(j)
		}},
		"killed and added again": {func(s *state.State) { s.Kill(1) }, func(s *state.State) {
			s.Kill(0)
			s.Kill(1)
			j, _ := s.Add([]int{0, 1}, fill(t, 9, 0, 2, 3))
			s.SetCost(j, []int{0, 1}, 5)
			s.SetCost(j, []int{1, 2}, 9)
		}},
		"costs of one that is gone": {func(s *state.State) { s.Kill(1); s.Remove(state.Elim{Var: 2, Best: []int{0}}) }, func(s *state.State) {
			s.Kill(1)
			s.SetUnary(2, 0, 7)
			s.Remove(state.Elim{Var: 2, Scope: []int{}, Best: []int{0}})
			s.SetUnary(2, 1, 9)
		}},
	} {
		a, b := made(t, three), made(t, three)
		x[0](a)
		x[1](b)
		if !slices.Equal(a.Facts(), b.Facts()) {
			t.Errorf("%s: %v, %v", what, a.Facts(), b.Facts())
		}
	}
}

// No two of these are the same, and most are from the next one in one thing.
func TestFactsThatAreNotTheSame(t *testing.T) {
	gone := func(e state.Elim) func(*state.State) {
		return func(s *state.State) { s.Kill(0); s.Kill(1); ok(t, s.Remove(e)) }
	}
	all := map[string]func(s *state.State){
		"new":               func(s *state.State) {},
		"Zero":              func(s *state.State) { s.SetZero(0) },
		"Zero at most":      func(s *state.State) { s.SetZero(9) },
		"a unary cost":      func(s *state.State) { s.SetUnary(1, 0, 1) },
		"another one":       func(s *state.State) { s.SetUnary(0, 1, 1) },
		"the other value's": func(s *state.State) { s.SetUnary(0, 0, 1) },
		"a cost":            func(s *state.State) { s.SetCost(0, []int{0, 0}, 1) },
		"another tuple's":   func(s *state.State) { s.SetCost(0, []int{1, 0}, 1) },
		"another function":  func(s *state.State) { s.SetCost(1, []int{0, 0, 0}, 0) },
		"dropped":           func(s *state.State) { s.Drop(0, 0) },
		"the other":         func(s *state.State) { s.Drop(0, 1) },
		"both":              func(s *state.State) { s.Drop(0, 0); s.Drop(0, 1) },
		"of another":        func(s *state.State) { s.Drop(1, 0) },
		"of the last":       func(s *state.State) { s.Drop(2, 0) },
		"killed":            func(s *state.State) { s.Kill(0) },
		"the other killed":  func(s *state.State) { s.Kill(1) },
		"both killed":       func(s *state.State) { s.Kill(0); s.Kill(1) },
		"added, all 0":      func(s *state.State) { add(t, s, fill(t, 9, 0, 2, 2), 0, 2) },
		"added, twice":      func(s *state.State) { add(t, s, fill(t, 9, 0, 2, 2), 0, 2); add(t, s, fill(t, 9, 0, 2, 2), 0, 2) },
		"of another scope":  func(s *state.State) { add(t, s, fill(t, 9, 0, 3, 2), 1, 2) },
		"an order":          func(s *state.State) { add(t, s, fill(t, 9, 0, 2, 2), 0, 2); add(t, s, fill(t, 9, 0, 3, 2), 1, 2) },
		"another order":     func(s *state.State) { add(t, s, fill(t, 9, 0, 3, 2), 1, 2); add(t, s, fill(t, 9, 0, 2, 2), 0, 2) },
		"gone":              gone(state.Elim{Var: 2, Best: []int{0}}),
		"another best":      gone(state.Elim{Var: 2, Best: []int{1}}),
		"no best":           gone(state.Elim{Var: 2, Best: []int{-1}}),
		"another gone":      gone(state.Elim{Var: 0, Best: []int{0}}),
		"with a scope":      gone(state.Elim{Var: 2, Scope: []int{0}, Best: []int{0, 0}}),
		"another in it":     gone(state.Elim{Var: 2, Scope: []int{0}, Best: []int{0, 1}}),
		"with another":      gone(state.Elim{Var: 2, Scope: []int{1}, Best: []int{0, 0, 0}}),
		"with more":         gone(state.Elim{Var: 2, Scope: []int{0, 1}, Best: []int{0, 0, 0, 0, 0, 0}}),
		"gone, and dropped": func(s *state.State) { gone(state.Elim{Var: 2, Best: []int{0}})(s); s.Drop(2, 0) },
		"the other dropped": func(s *state.State) { gone(state.Elim{Var: 2, Best: []int{0}})(s); s.Drop(2, 1) },
		"two gone": func(s *state.State) {
			gone(state.Elim{Var: 2, Best: []int{0}})(s)
			s.Remove(state.Elim{Var: 0, Best: []int{0}})
		},
		"the other way": func(s *state.State) {
			gone(state.Elim{Var: 0, Best: []int{0}})(s)
			s.Remove(state.Elim{Var: 2, Best: []int{0}})
		},
	}
	for a, x := range all {
		s := made(t, three)
		x(s)
		for b, y := range all {
			r := made(t, three)
			y(r)
			if slices.Equal(s.Facts(), r.Facts()) != (a == b) {
				t.Errorf("%s, %s: %v, %v", a, b, s.Facts(), r.Facts())
			}
		}
	}
}

// Lists one behind the other, without their lengths, or without an end of the
// functions, would be the same numbers here.
func TestFactsAreNotReadOtherwise(t *testing.T) {
	ones, long := "t 5 1 0 9 1 1 1 1 1", "t 4 4 0 9 1 1 3 4"
	dropped := func() *state.State {
		s := made(t, long)
		for v := range 3 {
			ok(t, s.Drop(3, v))
		}
		return s
	}
	a, b := made(t, ones), made(t, ones)
	add(t, a, fill(t, 9, 2, 1, 1), 0, 1)
	add(t, a, fill(t, 9, 5, 1, 1), 3, 4)
	add(t, b, fill(t, 9, 5, 1, 1, 1, 1, 1), 0, 1, 2, 3, 4)
	c, d := dropped(), dropped()
	add(t, c, fill(t, 9, 4, 1, 4), 1, 3)
	ok(t, c.Remove(state.Elim{Var: 2, Best: []int{0}}))
	ok(t, d.Remove(state.Elim{Var: 2, Scope: []int{3}, Best: []int{2, 0, 1, 0}}))
	if slices.Equal(a.Facts(), b.Facts()) || slices.Equal(c.Facts(), d.Facts()) {
		t.Errorf("%v, %v; %v, %v", a.Facts(), b.Facts(), c.Facts(), d.Facts())
	}
}
