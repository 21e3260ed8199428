package move_test

import (
	"math"
	"reflect"
	"testing"

	"pennyweight/api"
	"pennyweight/move"
	"pennyweight/state"
)

// partly is a state with a function that was killed, a variable that is gone,
// and values that are dropped.
func partly(t *testing.T) *state.State {
	t.Helper()
	s := made(t, "t 4 3 4 9 2 3 2 2, 0 2 0, 1 0 3 0, 2 0 1 2 0, 3 0 1 2 1 0")
	ok(t, s.Kill(0))
	ok(t, s.Drop(1, 1))
	ok(t, s.Remove(state.Elim{Var: 3, Best: []int{1}}))
	return s
}

// refused tries a call with costs that are legal, that are not, and that are none.
func refused(t *testing.T, s *state.State, want api.Errno, l ...call) {
	t.Helper()
	before := look(t, s)
	for _, x := range l {
		if e := x.do(s); e != want {
			t.Errorf("%v: error %d, not %d", x, e, want)
		}
		if got := look(t, s); !reflect.DeepEqual(got, before) {
			t.Fatalf("%v: told is\n%v, not\n%v", x, got, before)
		}
	}
}

var wrongCosts = []int64{-1, 10, 11, top, top + 1, math.MaxInt64, math.MinInt64}

// ErrArg is ahead of ErrRange, and of ErrIllegal.
func TestPlacesThatThereAreNot(t *testing.T) {
	s := partly(t)
	for _, x := range [][3]int{
		{-1, 0, 0}, {2, 0, 0}, {math.MaxInt, 0, 0}, {math.MinInt, 0, 0}, // functions
		{0, 0, 0}, {0, 1, 2}, // killed
		{1, -1, 0}, {1, 3, 0}, {1, math.MaxInt, 0}, {1, math.MinInt, 0}, // places
		{1, 0, -1}, {1, 0, 2}, {1, 1, 3}, {1, 2, 32}, {1, 2, 64}, {1, 0, math.MaxInt}, {1, 0, math.MinInt}, // values
		{1, 1, 1}, // dropped
		{5, 5, 5},
	} {
		if c, e := move.Room(s, x[0], x[1], x[2]); c != 0 || e != api.ErrArg {
			t.Errorf("Room%v: %d, error %d", x, c, e)
		}
		for _, c := range append([]int64{0, 1, 9}, wrongCosts...) {
			refused(t, s, api.ErrArg, call{"Project", x[0], x[1], x[2], c}, call{"Extend", x[0], x[1], x[2], c})
		}
	}
}

func TestVariablesThatThereAreNot(t *testing.T) {
	s := partly(t)
	for _, i := range []int{-1, 3, 4, 64, math.MaxInt, math.MinInt} {
		for _, c := range append([]int64{0, 1, 9}, wrongCosts...) {
			refused(t, s, api.ErrArg, call{"Lower", i, 0, 0, c}, call{"Raise", i, 0, 0, c})
		}
		for _, v := range []int{0, 1, -1} {
			refused(t, s, api.ErrArg, call{"Prune", i, 0, v, 0}, call{"Assign", i, 0, v, 0})
		}
	}
	for _, x := range [][2]int{{0, -1}, {0, 2}, {1, 3}, {2, 32}, {2, 64}, {0, math.MaxInt}, {0, math.MinInt}, {1, 1}} {
		refused(t, s, api.ErrArg, call{"Prune", x[0], 0, x[1], 0}, call{"Assign", x[0], 0, x[1], 0})
	}
	ok(t, s.SetZero(9))
	refused(t, s, api.ErrArg, call{"Prune", 3, 0, 0, 0}, call{"Prune", 1, 0, 1, 0}, call{"Prune", 0, 0, 2, 0})
}

// ErrRange is ahead of ErrIllegal: none of these costs could be moved.
func TestCostsThatAreNone(t *testing.T) {
	s := partly(t)
	for _, c := range wrongCosts {
		refused(t, s, api.ErrRange,
			call{"Project", 1, 0, 0, c}, call{"Project", 1, 1, 2, c}, call{"Extend", 1, 0, 0, c}, call{"Extend", 1, 2, 1, c},
			call{"Lower", 0, 0, 0, c}, call{"Lower", 2, 0, 0, c}, call{"Raise", 0, 0, 0, c}, call{"Raise", 1, 0, 0, c})
	}
	refused(t, s, api.ErrIllegal,
		call{"Project", 1, 0, 0, 9}, call{"Extend", 1, 0, 0, 9}, call{"Lower", 0, 0, 0, 9}, call{"Raise", 0, 0, 0, 9},
		call{"Project", 1, 0, 0, 2}, call{"Extend", 1, 0, 0, 4}, call{"Lower", 0, 0, 0, 4}, call{"Raise", 0, 0, 0, 3}, call{"Prune", 0, 0, 0, 0})
}

// Where all costs are the top, any cost can be moved, but what is none is none.
func TestCostsThatAreNoneWhereAnyCanBeMoved(t *testing.T) {
	s := made(t, "t 2 1 4 9 1 1, 0 9 0, 1 0 9 0, 1 1 9 0, 2 0 1 9 0")
	for _, c := range wrongCosts {
		refused(t, s, api.ErrRange, call{"Project", 0, 0, 0, c}, call{"Extend", 0, 1, 0, c}, call{"Lower", 0, 0, 0, c}, call{"Raise", 1, 0, 0, c})
	}
	before := look(t, s)
	for c := range int64(10) {
		for _, x := range []call{{"Project", 0, 0, 0, c}, {"Extend", 0, 1, 0, c}, {"Lower", 0, 0, 0, c}, {"Raise", 1, 0, 0, c}} {
			is(t, x.what, x.do(s), api.OK)
		}
	}
	if got := look(t, s); !reflect.DeepEqual(got, before) {
		t.Errorf("told is %v, not %v", got, before)
	}
}

// 0 is moved by each of the calls, and nothing is changed by it.
func TestMovesOfNothing(t *testing.T) {
	for what, s := range bases(t) {
		before := look(t, s)
		for _, x := range []call{{"Project", 1, 0, 1, 0}, {"Extend", 1, 0, 1, 0}, {"Lower", 0, 0, 0, 0}, {"Raise", 0, 0, 0, 0}} {
			if what == "gone" && x.places() {
				x.a = 0
			}
			is(t, what+": "+x.what, x.do(s), api.OK)
			if got := look(t, s); !reflect.DeepEqual(got, before) {
				t.Errorf("%s: %v: told is %v, not %v", what, x, got, before)
			}
		}
	}
}

func TestNilState(t *testing.T) {
	for _, a := range []int{-1, 0, 1, math.MaxInt, math.MinInt} {
		for _, c := range append([]int64{0, 1}, wrongCosts...) {
			for _, name := range names {
				is(t, name, call{name, a, a, a, c}.do(nil), api.ErrNone)
				is(t, name, call{name, a, 0, 0, c}.do(nil), api.ErrNone)
			}
		}
		if c, e := move.Room(nil, a, a, a); c != 0 || e != api.ErrNone {
			t.Errorf("Room of %d: %d, error %d", a, c, e)
		}
		if c, e := move.Room(nil, a, 0, 0); c != 0 || e != api.ErrNone {
			t.Errorf("Room of %d: %d, error %d", a, c, e)
		}
	}
}
