package check

import (
	"slices"

	"pennyweight/cost"
	"pennyweight/soft"
	"pennyweight/state"
)

// faultsOf are those of one level and one variable, by their Fun, then Value: of
// one that is gone there are none.
func faultsOf(s *state.State, level, i int) []Fault {
	switch {
	case s.Gone(i):
		return nil
	case level == NC:
		return node(s, i)
	case level == AC:
		return arc(s, i)
	case level == FDAC:
		return directional(s, i)
	}
	return existential(s, i)
}

func node(s *state.State, i int) []Fault {
	var l []Fault
	if low, _, _ := soft.Least(s, i); low > 0 {
		l = append(l, Fault{Level: NC, Var: i, Fun: -1, Value: -1})
	}
	for v := range s.Dom(i).Values() {
		unary, _ := s.Unary(i, v)
		if both, _ := cost.Add(s.Zero(), unary, s.K()); both == s.K() {
			l = append(l, Fault{Level: NC, Var: i, Fun: -1, Value: v})
		}
	}
	return l
}

func arc(s *state.State, i int) []Fault {
	var l []Fault
	for _, j := range s.Near(i) {
		pos := slices.Index(s.Scope(j), i)
		for v := range s.Dom(i).Values() {
			if low, _, _ := soft.Simple(s, j, pos, v); low > 0 {
				l = append(l, Fault{Level: AC, Var: i, Fun: j, Value: v})
			}
		}
	}
	return l
}

func directional(s *state.State, i int) []Fault {
	var l []Fault
	for _, j := range s.Near(i) {
		if scope := s.Scope(j); len(scope) != 2 || scope[0] != i {
			continue
		}
		for v := range s.Dom(i).Values() {
			if low, _, _ := soft.Full(s, j, 0, v); low > 0 {
				l = append(l, Fault{Level: FDAC, Var: i, Fun: j, Value: v})
			}
		}
	}
	return l
}

// existential takes it that a sum of costs is 0 just if each of them is.
func existential(s *state.State, i int) []Fault {
	if low, _, _ := soft.Need(s, i); low > 0 {
		return []Fault{{Level: EDAC, Var: i, Fun: -1, Value: -1}}
	}
	return nil
}
