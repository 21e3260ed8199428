package elim

import (
	"pennyweight/api"
	"pennyweight/cost"
	"pennyweight/state"
	"pennyweight/table"
)

// joined is a table of all that i makes cost, and which variables it is of: i
// and those that stand with it, rising.
func joined(s *state.State, i int) (*table.Table, []int) {
	vars := []int{i}
	whole := filled(s, vars, func(t []int) (int64, api.Errno) { return s.Unary(i, t[0]) })
	for _, j := range s.Near(i) {
		scope := s.Scope(j)
		costs := filled(s, scope, func(t []int) (int64, api.Errno) { return s.Cost(j, t) })
		whole, vars, _ = table.Join(whole, vars, costs, scope)
	}
	return whole, vars
}

func filled(s *state.State, scope []int, costOf func(t []int) (int64, api.Errno)) *table.Table {
	costs, _ := table.New(sizes(s, scope), s.K(), 0)
	for _, t := range costs.Shape().All() {
		c, _ := costOf(t)
		costs.Put(t, c)
	}
	return costs
}

// give adds the costs to those of the scope, whatever there is of it.
func give(s *state.State, scope []int, costs *table.Table) {
	j := s.Find(scope)
	if len(scope) > 1 && j < 0 {
		s.Add(scope, costs)
		return
	}
	for _, t := range costs.Shape().All() {
		c, _ := costs.Get(t)
		switch len(scope) {
		case 0:
			s.SetZero(more(s, s.Zero(), c))
		case 1:
			had, _ := s.Unary(scope[0], t[0])
			s.SetUnary(scope[0], t[0], more(s, had, c))
		default:
			had, _ := s.Cost(j, t)
			s.SetCost(j, t, more(s, had, c))
		}
	}
}

func more(s *state.State, a, b int64) int64 {
	sum, _ := cost.Add(a, b, s.K())
	return sum
}
