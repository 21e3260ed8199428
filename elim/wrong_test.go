package elim_test

import (
	"math"
	"testing"

	"pennyweight/api"
	"pennyweight/elim"
	"pennyweight/state"
)

var far = []int{-1, math.MinInt, math.MaxInt, 1 << 32}

// refused tries to take i out, in vain.
func refused(t *testing.T, s *state.State, i, most int, want api.Errno) {
	t.Helper()
	is(t, "Can", elim.Can(s, i, most), want)
	is(t, "Eliminate", elim.Eliminate(s, i, most), want)
}

func refusedAll(t *testing.T, s *state.State, most int, want api.Errno) {
	t.Helper()
	if out, e := elim.All(s, most); len(out) > 0 || e != want {
		t.Errorf("All(%d): %v, error %d", most, out, e)
	}
}

func TestWrongVariables(t *testing.T) {
	s := made(t, star)
	ok(t, s.Remove(state.Elim{Var: 4, Best: []int{0}}))
	before := look(t, s)
	for _, i := range append(far, 4, 5) {
		for most := -1; most <= 4; most++ {
			refused(t, s, i, most, api.ErrArg)
		}
		degrees(t, s, 3, 1, 2, 2, 0)
		if d := elim.Degree(s, i); d != 0 {
			t.Errorf("Degree(%d): %d", i, d)
		}
	}
	unchanged(t, s, before)
}

func TestWrongDegrees(t *testing.T) {
	s := made(t, star)
	before := look(t, s)
	for _, most := range append(far, 4) {
		for i := -1; i <= 5; i++ {
			refused(t, s, i, most, api.ErrArg)
		}
		refusedAll(t, s, most, api.ErrArg)
	}
	refused(t, s, 0, 2, api.ErrDegree)
	refused(t, s, 1, 0, api.ErrDegree)
	unchanged(t, s, before)
}

func TestWrongAssignments(t *testing.T) {
	s := made(t, star)
	ok(t, elim.Eliminate(s, 1, 1))
	drop(t, s, 2, 0)
	before := look(t, s)
	for _, a := range [][]int{nil, {}, {0, 0, 1, 0}, {0, 0, 1, 0, 0, 0}, {0, 0, 0, 0, 0}, {2, 0, 1, 0, 0}, {0, 0, 1, 0, 2}, {0, 0, 1, -1, 0}, {math.MaxInt, 0, 1, 0, 0}, {0, 0, math.MinInt, 0, 0}} {
		rebuild(t, s, a, nil, api.ErrRange)
	}
	for _, v := range append(far, 0, 1, 2) {
		rebuild(t, s, []int{1, v, 1, 0, 0}, []int{1, 1, 1, 0, 0}, api.OK) // of one that is gone anything
	}
	unchanged(t, s, before)
}

func TestNil(t *testing.T) {
	for _, n := range append(far, 0, 1, 4) {
		refused(t, nil, n, n, api.ErrNone)
		refusedAll(t, nil, n, api.ErrNone)
		if d := elim.Degree(nil, n); d != 0 {
			t.Errorf("Degree(%d): %d", n, d)
		}
	}
	rebuild(t, nil, nil, nil, api.ErrNone)
	rebuild(t, nil, []int{0}, nil, api.ErrNone)
}
