package soft

import (
	"slices"

	"pennyweight/api"
	"pennyweight/cost"
	"pennyweight/dom"
	"pennyweight/state"
)

// spot is a value at a place of the function j, among those that are left there
// and at the other places.
type spot struct {
	s      *state.State
	j, pos int
	scope  []int
	left   []dom.Set
}

// find doesn't ask whether the variable is gone: none of a live function's is.
func find(s *state.State, j, pos, v int) (spot, api.Errno) {
	if s == nil {
		return spot{}, api.ErrNone
	}
	scope := s.Scope(j)
	if !s.Live(j) || pos < 0 || pos >= len(scope) || !s.Dom(scope[pos]).Has(v) {
		return spot{}, api.ErrArg
	}
	at := spot{s: s, j: j, pos: pos, scope: scope}
	for _, i := range scope {
		at.left = append(at.left, s.Dom(i))
	}
	at.left[pos] = at.left[pos].Only(v)
	return at, api.OK
}

// first is the first tuple, in layer 3's order, or nil.
func (at spot) first() []int {
	var t []int
	for _, d := range at.left {
		if d.Len() == 0 {
			return nil
		}
		t = append(t, d.First())
	}
	return t
}

// next turns t into the tuple behind it: nil, if there is none.
func (at spot) next(t []int) []int {
	for p, d := range slices.Backward(at.left) {
		if t[p] = d.Next(t[p]); t[p] >= 0 {
			return t
		}
		t[p] = d.First()
	}
	return nil
}

// full needs a function of two variables.
func (at spot) full() (int64, int) {
	other := 1 - at.pos
	t := []int{at.left[0].First(), at.left[1].First()}
	return cheapest(at.s, at.scope[other], func(w int) int64 {
		t[other] = w
		c, _ := at.s.Cost(at.j, t)
		both, _ := cost.Add(c, unary(at.s, at.scope[other], w), at.s.K())
		return both
	})
}
