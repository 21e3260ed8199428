package state

import (
	"slices"

	"pennyweight/api"
	"pennyweight/cost"
	"pennyweight/table"
)

func (s *State) SetZero(c int64) api.Errno {
	if s == nil {
		return api.ErrNone
	}
	return s.put(zeroCell, c)
}

func (s *State) SetUnary(i, v int, c int64) api.Errno {
	if s == nil {
		return api.ErrNone
	}
	return s.put(s.unaryCell(i, v), c)
}

func (s *State) SetCost(j int, t []int, c int64) api.Errno {
	if s == nil {
		return api.ErrNone
	}
	return s.put(s.costCell(j, t), c)
}

func (s *State) Drop(i, v int) api.Errno {
	if s == nil {
		return api.ErrNone
	}
	if !s.hasValue(i, v) {
		return api.ErrArg
	}
	return s.cells.Set(s.vars[i]+droppedAt, int64(s.dropped(i)|1<<v))
}

func (s *State) Add(scope []int, t *table.Table) (int, api.Errno) {
	if s == nil {
		return 0, api.ErrNone
	}
	if !s.fits(scope, t) {
		return 0, api.ErrArg
	}
	return s.take(scope, t), api.OK
}

func (s *State) Kill(j int) api.Errno {
	if s == nil {
		return api.ErrNone
	}
	if !s.Live(j) {
		return api.ErrArg
	}
	return s.cells.Set(s.funs[j].first+killedAt, 1)
}

func (s *State) Remove(e Elim) api.Errno {
	if s == nil {
		return api.ErrNone
	}
	if !s.loose(e.Var) || !s.finds(e) {
		return api.ErrArg
	}
	s.elims = append(s.elims, e.copied())
	s.cells.Set(elimsCell, int64(len(s.elims)))
	return s.cells.Set(s.vars[e.Var]+goneAt, 1)
}

func (s *State) Mark() int {
	if s == nil {
		return 0
	}
	return s.cells.Mark()
}

func (s *State) Depth() int {
	if s == nil {
		return 0
	}
	return s.cells.Depth()
}

func (s *State) Undo(m int) api.Errno {
	if s == nil {
		return api.ErrNone
	}
	if e := s.cells.Undo(m); e != api.OK {
		return e
	}
	s.funs = slices.Delete(s.funs, int(s.cells.Get(funsCell)), len(s.funs))
	s.elims = slices.Delete(s.elims, int(s.cells.Get(elimsCell)), len(s.elims))
	return api.OK
}

func (s *State) put(cell int, c int64) api.Errno {
	if cell == nowhere {
		return api.ErrArg
	}
	if !cost.In(c, s.K()) {
		return api.ErrRange
	}
	return s.cells.Set(cell, c)
}

// grow tells the first of new cells: so many that are 0, and the costs behind.
func (s *State) grow(ahead int, costs []int64) int {
	first := s.cells.Grow(ahead + len(costs))
	for i, c := range costs {
		s.cells.Set(first+ahead+i, c)
	}
	return first
}

func (s *State) take(scope []int, t *table.Table) int {
	f := function{scope: slices.Clone(scope), shape: t.Shape(), first: s.grow(costsAt, t.Entries())}
	s.funs = append(s.funs, f)
	s.cells.Set(funsCell, int64(len(s.funs)))
	return len(s.funs) - 1
}

// fits leaves it to the sizes that t isn't nil, and that there aren't too many
// variables: a nil table has no sizes, and none has more than MaxArity.
func (s *State) fits(scope []int, t *table.Table) bool {
	return len(scope) >= 2 && s.stands(scope) && t.K() == s.K() && slices.Equal(t.Shape().Sizes(), s.sizes(scope))
}

func (s *State) stands(scope []int) bool {
	last := -1
	for _, i := range scope {
		if i <= last || !s.hasVar(i) || s.Gone(i) {
			return false
		}
		last = i
	}
	return true
}

func (s *State) sizes(scope []int) []int {
	sizes := make([]int, len(scope))
	for p, i := range scope {
		sizes[p] = s.net.Size(i)
	}
	return sizes
}

func (s *State) loose(i int) bool {
	return s.hasVar(i) && !s.Gone(i) && len(s.Near(i)) == 0
}

func (s *State) finds(e Elim) bool {
	if !s.stands(e.Scope) || slices.Contains(e.Scope, e.Var) || !s.tuplesOf(e.Scope, len(e.Best)) {
		return false
	}
	size := s.net.Size(e.Var)
	return !slices.ContainsFunc(e.Best, func(v int) bool { return v < -1 || v >= size })
}

// tuplesOf asks whether there are n tuples of that scope, which may be longer
// than a shape can be. It stops ahead of what would wrap round.
func (s *State) tuplesOf(scope []int, n int) bool {
	product := 1
	for _, size := range s.sizes(scope) {
		if product *= size; product > n {
			return false
		}
	}
	return product == n
}
