package soft_test

import (
	"slices"
	"testing"

	"pennyweight/api"
	"pennyweight/soft"
	"pennyweight/state"
)

// three has variables of 2, 3 and 2 values, K 9, the functions 0 (of 0 and 1:
// 0 5 0, 0 0 9), 1 (of 0 and 2: 4 4, 4 1), and 2 (of all: 1 each, of 1 2 0 6).
const three = "t 3 3 6 9 2 3 2, 0 1 0, 1 1 2 2 1 3 2 9, 1 2 4 0, 2 0 1 0 2 0 1 5 1 2 9, 2 0 2 4 1 1 1 1, 3 0 1 2 1 1 1 2 0 6"

func drop(t *testing.T, s *state.State, i int, values ...int) {
	t.Helper()
	for _, v := range values {
		ok(t, s.Drop(i, v))
	}
}

func isLeast(t *testing.T, s *state.State, i int, c int64, v int) {
	t.Helper()
	if gc, gv, e := soft.Least(s, i); gc != c || gv != v || e != api.OK {
		t.Errorf("Least(%d): %d, %d, error %d, not %d, %d", i, gc, gv, e, c, v)
	}
}

func isSimple(t *testing.T, s *state.State, j, pos, v int, c int64, x ...int) {
	t.Helper()
	if gc, gx, e := soft.Simple(s, j, pos, v); gc != c || !slices.Equal(gx, x) || e != api.OK {
		t.Errorf("Simple(%d, %d, %d): %d, %v, error %d, not %d, %v", j, pos, v, gc, gx, e, c, x)
	}
}

func isFull(t *testing.T, s *state.State, j, pos, v int, c int64, w int) {
	t.Helper()
	if gc, gw, e := soft.Full(s, j, pos, v); gc != c || gw != w || e != api.OK {
		t.Errorf("Full(%d, %d, %d): %d, %d, error %d, not %d, %d", j, pos, v, gc, gw, e, c, w)
	}
}

func isNeed(t *testing.T, s *state.State, i int, c int64, v int) {
	t.Helper()
	if gc, gv, e := soft.Need(s, i); gc != c || gv != v || e != api.OK {
		t.Errorf("Need(%d): %d, %d, error %d, not %d, %d", i, gc, gv, e, c, v)
	}
}

func isBound(t *testing.T, s *state.State, c int64, wiped bool) {
	t.Helper()
	if got, e := soft.Bound(s); got != c || e != api.OK {
		t.Errorf("Bound: %d, error %d, not %d", got, e, c)
	}
	if soft.Wiped(s) != wiped {
		t.Errorf("Wiped isn't %v", wiped)
	}
}

func TestExample(t *testing.T) {
	s := made(t, "t 2 2 2 9 2 2, 1 1 0 1 0 4, 2 0 1 0 1 0 1 5")
	isFull(t, s, 0, 0, 0, 4, 0)
	isFull(t, s, 0, 0, 1, 0, 1)
	isFull(t, s, 0, 1, 0, 0, 0)
	isFull(t, s, 0, 1, 1, 0, 1)
}

func TestLeast(t *testing.T) {
	s := made(t, "t 2 5 1 9 5 1, 1 0 7 4 1 3 2 9 3 3 4 0")
	isLeast(t, s, 0, 0, 4)
	isLeast(t, s, 1, 0, 0)
	drop(t, s, 0, 4)
	isLeast(t, s, 0, 3, 1) // of several the least value
	drop(t, s, 0, 1)
	isLeast(t, s, 0, 3, 3)
	drop(t, s, 0, 3)
	isLeast(t, s, 0, 7, 0)
	drop(t, s, 0, 0)
	isLeast(t, s, 0, 9, 2) // a least cost that is K is one that a value has
	drop(t, s, 0, 2)
	isLeast(t, s, 0, 9, -1)
	isLeast(t, s, 1, 0, 0)
}

func TestLeastOfTheTop(t *testing.T) {
	s := made(t, "t 1 32 1 2147483648 32, 1 0 2147483648 0")
	isLeast(t, s, 0, top, 0)
	ok(t, s.SetUnary(0, 31, top-1))
	isLeast(t, s, 0, top-1, 31)
	drop(t, s, 0, 31, 0)
	isLeast(t, s, 0, top, 1)
}

func TestSimple(t *testing.T) {
	s := made(t, three)
	isSimple(t, s, 0, 0, 0, 0, 0, 0)
	isSimple(t, s, 0, 0, 1, 0, 1, 0)
	isSimple(t, s, 0, 1, 1, 0, 1, 1)
	isSimple(t, s, 0, 1, 2, 0, 0, 2)
	isSimple(t, s, 1, 0, 0, 4, 0, 0) // of several the first
	isSimple(t, s, 1, 0, 1, 1, 1, 1)
	isSimple(t, s, 1, 1, 0, 4, 0, 0)
	isSimple(t, s, 2, 0, 1, 1, 1, 0, 0)
	isSimple(t, s, 2, 1, 2, 1, 0, 2, 0)
	isSimple(t, s, 2, 2, 1, 1, 0, 0, 1)
	drop(t, s, 1, 0)
	isSimple(t, s, 0, 0, 0, 0, 0, 2)
	isSimple(t, s, 2, 2, 1, 1, 0, 1, 1)
	drop(t, s, 1, 1)
	isSimple(t, s, 0, 0, 1, 9, 1, 2) // a least cost that is K is one that a tuple has
	drop(t, s, 0, 0)
	isSimple(t, s, 2, 2, 0, 6, 1, 2, 0)
	isSimple(t, s, 2, 1, 2, 1, 1, 2, 1)
	drop(t, s, 2, 1)
	isSimple(t, s, 2, 1, 2, 6, 1, 2, 0)
}

// The first place counts most, wherever v stands.
func TestSimpleInOrder(t *testing.T) {
	s := made(t, "t 4 2 1 9 2 2 2 2, 4 0 1 2 3 5 4, 0 1 1 1 3, 1 0 0 1 3, 0 1 1 0 3, 1 1 0 0 3")
	isSimple(t, s, 0, 0, 0, 3, 0, 1, 1, 0)
	isSimple(t, s, 0, 0, 1, 3, 1, 0, 0, 1)
	isSimple(t, s, 0, 1, 1, 3, 0, 1, 1, 0)
	isSimple(t, s, 0, 2, 0, 3, 1, 0, 0, 1)
	isSimple(t, s, 0, 3, 1, 3, 0, 1, 1, 1)
	drop(t, s, 0, 0)
	isSimple(t, s, 0, 3, 0, 3, 1, 1, 0, 0)
	isSimple(t, s, 0, 2, 1, 5, 1, 0, 1, 0)
}

// Where another variable has no value left there is no tuple.
func TestNoTuple(t *testing.T) {
	s := made(t, three)
	drop(t, s, 1, 0, 1, 2)
	for v := range 2 {
		isSimple(t, s, 0, 0, v, 9)
		isSimple(t, s, 2, 0, v, 9)
		isSimple(t, s, 2, 2, v, 9)
		isFull(t, s, 0, 0, v, 9, -1)
	}
	isSimple(t, s, 1, 0, 0, 4, 0, 0)
	isFull(t, s, 1, 0, 0, 8, 0)
	isNeed(t, s, 0, 9, 0)
	isNeed(t, s, 1, 9, -1)
	isNeed(t, s, 2, 5, 1)
	drop(t, s, 0, 0)
	isNeed(t, s, 0, 9, 1)
}

func TestFullAtEitherPlace(t *testing.T) {
	s := made(t, "t 2 3 3 20 2 3, 1 0 1 1 1 6, 1 1 0 2 0 5 2 3, 2 0 1 0 6, 0 0 2, 0 1 7, 0 2 4, 1 0 8, 1 1 1, 1 2 0")
	isFull(t, s, 0, 0, 0, 7, 0) // 2 + 5, 7, 4 + 3
	isFull(t, s, 0, 0, 1, 1, 1) // 8 + 5, 1, 3
	isFull(t, s, 0, 1, 0, 3, 0) // 2 + 1, 8 + 6
	isFull(t, s, 0, 1, 1, 7, 1) // 7 + 1, 1 + 6
	isFull(t, s, 0, 1, 2, 5, 0) // 4 + 1, 6
	drop(t, s, 1, 0)
	isFull(t, s, 0, 0, 0, 7, 1)
	drop(t, s, 1, 1)
	isFull(t, s, 0, 0, 0, 7, 2)
	isFull(t, s, 0, 0, 1, 3, 2)
	drop(t, s, 0, 0)
	isFull(t, s, 0, 1, 2, 6, 1)
}

// Neither the cost alone nor the unary cost alone says which value is best.
func TestFullOfBoth(t *testing.T) {
	s := made(t, "t 2 3 2 9 1 3, 1 1 0 3 0 0 1 3 2 5, 2 0 1 0 3 0 0 5 0 1 1 0 2 0")
	isFull(t, s, 0, 0, 0, 4, 1)
	ok(t, s.SetUnary(1, 1, 8))
	isFull(t, s, 0, 0, 0, 5, 0)
	drop(t, s, 1, 0)
	isFull(t, s, 0, 0, 0, 5, 2)
	drop(t, s, 1, 2)
	isFull(t, s, 0, 0, 0, 9, 1)
}

func TestFullUpToTheTop(t *testing.T) {
	s := made(t, "t 2 2 2 9 2 2, 1 1 0 2 0 5 1 9, 2 0 1 4 1 1 0 9")
	isFull(t, s, 0, 0, 0, 9, 0) // 5 + 4, 9 + 4: both are K
	isFull(t, s, 0, 0, 1, 9, 0) // 5 + 9, 9 + 4
	ok(t, s.SetCost(0, []int{0, 0}, 3))
	isFull(t, s, 0, 0, 0, 8, 0)
	ok(t, s.SetUnary(1, 0, 6))
	isFull(t, s, 0, 0, 0, 9, 0)
	ok(t, s.SetUnary(1, 1, 4))
	isFull(t, s, 0, 0, 0, 8, 1)
	s = made(t, "t 2 1 2 2147483648 1 1, 1 1 2147483648 0, 2 0 1 2147483648 0")
	isFull(t, s, 0, 0, 0, top, 0)
}

func TestFullOfNotTwo(t *testing.T) {
	s := made(t, three)
	for pos := range 3 {
		if c, w, e := soft.Full(s, 2, pos, 0); c != 0 || w != -1 || e != api.ErrArg {
			t.Errorf("Full of three: %d, %d, error %d", c, w, e)
		}
	}
	isFull(t, s, 0, 0, 0, 2, 0)
}

func TestNeed(t *testing.T) {
	s := made(t, three)
	isNeed(t, s, 0, 7, 1) // 0 + 2 + 8, 0 + 2 + 5
	isNeed(t, s, 1, 2, 0) // 2 + 0, 3 + 0, 9
	isNeed(t, s, 2, 5, 1) // 4 + 4, 4 + 1
	ok(t, s.Kill(1))
	isNeed(t, s, 0, 2, 0)
	isNeed(t, s, 2, 4, 0) // none of two is left of it
	ok(t, s.SetUnary(2, 1, 3))
	isNeed(t, s, 2, 3, 1)
	drop(t, s, 2, 1)
	isNeed(t, s, 2, 4, 0)
}

// A value may be best in none of the functions, and still best of all.
func TestNeedOfAllTogether(t *testing.T) {
	s := made(t, "t 3 3 2 20 3 2 2, 2 0 1 0 3 0 0 5 0 1 6 2 1 1, 2 0 2 0 6 1 0 7 1 1 6 2 0 2 2 1 3 0 0 0 0 1 0")
	isNeed(t, s, 0, 2, 2) // 5 + 0, 0 + 6, 0 + 2
	ok(t, s.SetUnary(0, 2, 3))
	isNeed(t, s, 0, 5, 0) // 5, 6, 5: of several the least value
	drop(t, s, 0, 0)
	isNeed(t, s, 0, 5, 2)
	isNeed(t, s, 1, 0, 0)
	drop(t, s, 0, 1)
	isNeed(t, s, 1, 3, 0)
	isNeed(t, s, 2, 5, 0)
}

func TestNeedOfOneAlone(t *testing.T) {
	s := made(t, "t 4 2 2 9 2 2 2 1, 1 3 5 0, 3 0 1 2 6 0")
	isNeed(t, s, 0, 0, 0) // of three: it doesn't count
	isNeed(t, s, 3, 5, 0)
	ok(t, s.SetUnary(0, 0, 9))
	ok(t, s.SetUnary(0, 1, 9))
	isNeed(t, s, 0, 9, 0)
	drop(t, s, 0, 0)
	isNeed(t, s, 0, 9, 1)
	drop(t, s, 0, 1)
	isNeed(t, s, 0, 9, -1)
	isNeed(t, s, 1, 0, 0)
}

func TestNeedUpToTheTop(t *testing.T) {
	s := made(t, "t 3 2 3 9 2 1 1, 1 0 0 2 0 1 1 2, 2 0 1 4 0, 2 0 2 3 1 1 0 4")
	isNeed(t, s, 0, 8, 0)
	ok(t, s.SetUnary(0, 0, 3))
	isNeed(t, s, 0, 9, 0) // 3 + 4 + 3, 2 + 4 + 4: both are K
	ok(t, s.SetUnary(0, 1, 0))
	isNeed(t, s, 0, 8, 1)
	s = made(t, "t 3 1 3 2147483648 1 1 1, 1 0 2147483648 0, 2 0 1 2147483648 0, 2 0 2 2147483648 0")
	isNeed(t, s, 0, top, 0)
}

// Each live function of the same two variables counts.
func TestNeedOfTheSameScope(t *testing.T) {
	s := made(t, "t 2 2 1 9 2 2, 2 0 1 2 0")
	j := add(t, s, 3, 0, 1)
	isNeed(t, s, 0, 5, 0)
	isNeed(t, s, 1, 5, 0)
	ok(t, s.Kill(0))
	isNeed(t, s, 1, 3, 0)
	ok(t, s.SetCost(j, []int{1, 1}, 0))
	isNeed(t, s, 0, 0, 1)
	ok(t, s.Kill(j))
	isNeed(t, s, 0, 0, 0)
}

func TestBoundAndWiped(t *testing.T) {
	s := made(t, "t 3 2 4 20 2 2 1, 0 3 0, 1 0 0 2 0 4 1 6, 1 1 5 0, 1 2 7 0")
	isBound(t, s, 19, false)
	ok(t, s.SetUnary(1, 1, 2))
	isBound(t, s, 16, false)
	drop(t, s, 0, 0)
	isBound(t, s, 18, false)
	ok(t, s.SetZero(4))
	isBound(t, s, 19, false)
	ok(t, s.SetZero(5))
	isBound(t, s, 20, false)
	ok(t, s.SetZero(20))
	isBound(t, s, 20, false)
	ok(t, s.SetZero(0))
	drop(t, s, 0, 1)
	isBound(t, s, 20, true)
	ok(t, s.Remove(state.Elim{Var: 0, Best: []int{1}}))
	isBound(t, s, 9, false) // of one that is gone nothing counts
	drop(t, s, 2, 0)
	isBound(t, s, 20, true)
	ok(t, s.Remove(state.Elim{Var: 2, Best: []int{0}}))
	isBound(t, s, 2, false)
	ok(t, s.Remove(state.Elim{Var: 1, Best: []int{1}}))
	isBound(t, s, 0, false)
	ok(t, s.SetZero(6))
	isBound(t, s, 6, false)
}

func TestWipedOfTheLastVariable(t *testing.T) {
	s := made(t, "t 2 1 0 9 1 1")
	isBound(t, s, 0, false)
	drop(t, s, 1, 0)
	isBound(t, s, 9, true)
}

// So great costs aren't to wrap round.
func TestBoundOfTheTop(t *testing.T) {
	s := made(t, "t 3 1 4 2147483648 1 1 1, 0 2147483648 0, 1 0 2147483648 0, 1 1 2147483648 0, 1 2 2147483648 0")
	isBound(t, s, top, false)
	for i := range 3 {
		ok(t, s.SetUnary(i, 0, 1))
	}
	ok(t, s.SetZero(top-4))
	isBound(t, s, top-1, false)
}

func TestTheGreatestFunction(t *testing.T) {
	s := made(t, "t 6 4 1 2147483648 4 4 4 4 4 4, 6 0 1 2 3 4 5 9 1 3 3 3 3 3 3 2")
	for pos := range 6 {
		x := make([]int, 6)
		x[pos] = 2
		isSimple(t, s, 0, pos, 2, 9, x...)
		isSimple(t, s, 0, pos, 3, 2, 3, 3, 3, 3, 3, 3)
	}
	drop(t, s, 5, 3)
	isSimple(t, s, 0, 0, 3, 9, 3, 0, 0, 0, 0, 0)
}

// What is answered is written over, and asked for again.
func TestAnswersAreNew(t *testing.T) {
	s := made(t, three)
	before := look(t, s)
	for range 2 {
		_, a, e := soft.Simple(s, 2, 1, 2)
		ok(t, e)
		_, b, e := soft.Simple(s, 2, 1, 2)
		ok(t, e)
		for p := range a[:cap(a)] {
			a[:cap(a)][p] = 7
		}
		if !slices.Equal(b, []int{0, 2, 0}) {
			t.Fatalf("the other answer is %v", b)
		}
	}
	unchanged(t, s, before)
}
