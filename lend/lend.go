// Package lend moves what both variables of a function cost to one of them, for the
// levels that ask for it.
package lend

import (
	"pennyweight/move"
	"pennyweight/soft"
	"pennyweight/state"
)

// To gives each value at the place pos of the function j what it needs of the other
// variable's values: was there anything to give? In a function of more than two
// variables nothing is needed.
//
// It extends by what is lacking alone, so that each value of the other one that had
// a free tuple has one still.
func To(s *state.State, j, pos int) bool {
	needs := needsOf(s, j, pos)
	if len(needs) == 0 {
		return false
	}
	other := 1 - pos
	for w := range s.Dom(s.Scope(j)[other]).Values() {
		if c := lacking(s, j, other, w, needs); c > 0 {
			move.Extend(s, j, other, w, c)
		}
	}
	for v, c := range needs {
		move.Project(s, j, pos, v, c)
	}
	return true
}

// needsOf is what each value costs at least together with one of the other
// variable, if that isn't nothing.
func needsOf(s *state.State, j, pos int) map[int]int64 {
	needs := map[int]int64{}
	for v := range s.Dom(s.Scope(j)[pos]).Values() {
		if c, _, _ := soft.Full(s, j, pos, v); c > 0 {
			needs[v] = c
		}
	}
	return needs
}

// lacking is what w, at the place pos, must lend so that no tuple of it costs less
// than the other value needs.
func lacking(s *state.State, j, pos, w int, needs map[int]int64) int64 {
	lacks, tuple := int64(0), []int{w, w}
	for v, need := range needs {
		tuple[1-pos] = v
		c, _ := s.Cost(j, tuple)
		lacks = max(lacks, need-c)
	}
	return lacks
}
