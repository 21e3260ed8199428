package soft_test

import (
	"math"
	"testing"

	"pennyweight/api"
	"pennyweight/soft"
	"pennyweight/state"
)

// partly is a state with a function that was killed, a variable that is gone,
// and values that are dropped.
func partly(t *testing.T) *state.State {
	t.Helper()
	s := made(t, "t 4 3 5 9 2 3 2 2, 0 2 0, 1 0 3 0, 2 0 1 2 0, 2 0 2 2 0, 3 0 1 2 1 0")
	ok(t, s.Kill(0))
	drop(t, s, 1, 1)
	ok(t, s.Remove(state.Elim{Var: 3, Best: []int{1}}))
	return s
}

var far = []int{-1, math.MinInt, math.MaxInt, 1 << 32}

func noVar(t *testing.T, s *state.State, i int, want api.Errno) {
	t.Helper()
	if c, v, e := soft.Least(s, i); c != 0 || v != -1 || e != want {
		t.Errorf("Least(%d): %d, %d, error %d", i, c, v, e)
	}
	if c, v, e := soft.Need(s, i); c != 0 || v != -1 || e != want {
		t.Errorf("Need(%d): %d, %d, error %d", i, c, v, e)
	}
}

func noSpot(t *testing.T, s *state.State, j, pos, v int, want api.Errno) {
	t.Helper()
	if c, x, e := soft.Simple(s, j, pos, v); c != 0 || x != nil || e != want {
		t.Errorf("Simple(%d, %d, %d): %d, %v, error %d", j, pos, v, c, x, e)
	}
	if c, w, e := soft.Full(s, j, pos, v); c != 0 || w != -1 || e != want {
		t.Errorf("Full(%d, %d, %d): %d, %d, error %d", j, pos, v, c, w, e)
	}
}

func TestWrongVariables(t *testing.T) {
	s := partly(t)
	before := look(t, s)
	noVar(t, s, 3, api.ErrArg)
	noVar(t, s, 4, api.ErrArg)
	for _, i := range far {
		noVar(t, s, i, api.ErrArg)
	}
	unchanged(t, s, before)
}

func TestWrongSpots(t *testing.T) {
	s := partly(t)
	before := look(t, s)
	noSpot(t, s, 0, 0, 0, api.ErrArg) // was killed
	noSpot(t, s, 3, 0, 0, api.ErrArg)
	noSpot(t, s, 1, 2, 0, api.ErrArg)
	noSpot(t, s, 2, 3, 0, api.ErrArg)
	noSpot(t, s, 2, 1, 1, api.ErrArg) // isn't left
	noSpot(t, s, 1, 1, 2, api.ErrArg)
	for _, n := range far {
		noSpot(t, s, n, 0, 0, api.ErrArg)
		noSpot(t, s, 1, n, 0, api.ErrArg)
		noSpot(t, s, 1, 0, n, api.ErrArg)
		noSpot(t, s, n, n, n, api.ErrArg)
	}
	unchanged(t, s, before)
	isFull(t, s, 1, 1, 1, 5, 0)
	isSimple(t, s, 2, 1, 2, 1, 0, 2, 0)
}

func TestNil(t *testing.T) {
	for _, n := range append(far, 0, 1) {
		noVar(t, nil, n, api.ErrNone)
		noSpot(t, nil, n, n, n, api.ErrNone)
	}
	if c, e := soft.Bound(nil); c != 0 || e != api.ErrNone {
		t.Errorf("Bound: %d, error %d", c, e)
	}
	if soft.Wiped(nil) {
		t.Error("nil is Wiped")
	}
}
