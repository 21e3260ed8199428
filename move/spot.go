package move

import (
	"iter"

	"pennyweight/api"
	"pennyweight/dom"
	"pennyweight/state"
)

// spot is the value v of the variable i, at its place in the function j.
type spot struct {
	s            *state.State
	j, pos, i, v int
}

// find doesn't ask whether the variable is gone: none of a live function's is.
func find(s *state.State, j, pos, v int) (spot, api.Errno) {
	if s == nil {
		return spot{}, api.ErrNone
	}
	scope := s.Scope(j)
	if !s.Live(j) || pos < 0 || pos >= len(scope) || !s.Dom(scope[pos]).Has(v) {
		return spot{}, api.ErrArg
	}
	return spot{s: s, j: j, pos: pos, i: scope[pos], v: v}, api.OK
}

func (at spot) unary() int64 {
	unary, _ := at.s.Unary(at.i, at.v)
	return unary
}

// room is the least cost of a tuple of v.
func (at spot) room() int64 {
	low := at.s.K()
	for t := range at.tuples() {
		entry, _ := at.s.Cost(at.j, t)
		if low = min(low, entry); low == 0 {
			break // none costs less
		}
	}
	return low
}

// shift moves c, if it is a cost up to most, between the unary cost of v and the
// costs of its tuples.
func (at spot) shift(c, most int64, by pair) api.Errno {
	s := at.s
	if e := moves(s, c, most); e != api.OK {
		return e
	}
	for t := range at.tuples() {
		entry, _ := s.Cost(at.j, t)
		entry, _ = by.many(entry, c, s.K())
		s.SetCost(at.j, t, entry)
	}
	unary, _ := by.one(at.unary(), c, s.K())
	return s.SetUnary(at.i, at.v, unary)
}

// tuples are those of v, all in one list, which the next one is written over.
func (at spot) tuples() iter.Seq[[]int] {
	return func(yield func([]int) bool) {
		left := at.left()
		t := make([]int, len(left))
		var from func(p int) bool
		from = func(p int) bool {
			if p == len(left) {
				return yield(t)
			}
			for v := range left[p].Values() {
				t[p] = v
				if !from(p + 1) {
					return false
				}
			}
			return true
		}
		from(0)
	}
}

// left is which values there are at each place of a tuple of v.
func (at spot) left() []dom.Set {
	var left []dom.Set
	for _, i := range at.s.Scope(at.j) {
		left = append(left, at.s.Dom(i))
	}
	left[at.pos] = left[at.pos].Only(at.v)
	return left
}
