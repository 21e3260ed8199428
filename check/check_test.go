package check_test

import (
	"math"
	"slices"
	"testing"

	"pennyweight/api"
	"pennyweight/check"
	"pennyweight/state"
)

// fault is one by its fields, in order.
func fault(level, i, j, v int) check.Fault {
	return check.Fault{Level: level, Var: i, Fun: j, Value: v}
}

// why asks for all faults up to a level.
func why(t *testing.T, s *state.State, level int, want ...check.Fault) {
	t.Helper()
	if l, e := check.Why(s, level); !slices.Equal(l, want) || e != api.OK {
		t.Errorf("Why(%d): %v, error %d, not %v", level, l, e, want)
	}
}

// isOf asks whether a state is of a level, and of no greater one.
func isOf(t *testing.T, s *state.State, most int) {
	t.Helper()
	if got := check.Of(s); got != most {
		l, _ := check.Why(s, check.EDAC)
		t.Errorf("Of: %d, not %d: %v", got, most, l)
	}
	for level := check.None; level <= check.EDAC; level++ {
		if is, e := check.Is(s, level); is != (level <= most) || e != api.OK {
			t.Errorf("Is(%d): %v, error %d", level, is, e)
		}
		if l, e := check.Why(s, level); (len(l) == 0) != (level <= most) || e != api.OK {
			t.Errorf("Why(%d): %v, error %d", level, l, e)
		}
	}
}

func drop(t *testing.T, s *state.State, i int, values ...int) {
	t.Helper()
	for _, v := range values {
		ok(t, s.Drop(i, v))
	}
}

func TestExample(t *testing.T) {
	s := made(t, "t 1 2 1 9 2, 1 0 0 2 0 1 1 2")
	why(t, s, check.NC, fault(1, 0, -1, -1))
	isOf(t, s, check.None)
}

func TestNames(t *testing.T) {
	for level, want := range []string{"none", "nc", "ac", "fdac", "edac"} {
		if got := check.Name(level); got != want {
			t.Errorf("Name(%d): %q", level, got)
		}
	}
	for _, level := range []int{-1, 5, 6, math.MinInt, math.MaxInt} {
		if got := check.Name(level); got != "" {
			t.Errorf("Name(%d): %q", level, got)
		}
	}
	if l := []int{check.None, check.NC, check.AC, check.FDAC, check.EDAC}; !slices.Equal(l, []int{0, 1, 2, 3, 4}) {
		t.Errorf("the levels are %v", l)
	}
}

func TestFreeUnaryCost(t *testing.T) {
	s := made(t, "t 2 3 1 9 3 1, 1 0 4 2 0 1 2 1")
	why(t, s, check.NC, fault(1, 0, -1, -1))
	ok(t, s.SetUnary(0, 2, 0))
	isOf(t, s, check.EDAC)
	drop(t, s, 0, 2)
	why(t, s, check.NC, fault(1, 0, -1, -1))
	ok(t, s.SetUnary(0, 1, 0))
	isOf(t, s, check.EDAC)
	ok(t, s.SetUnary(1, 0, 1))
	why(t, s, check.NC, fault(1, 1, -1, -1))
	isOf(t, s, check.None)
}

func TestCostsTooMuch(t *testing.T) {
	s := made(t, "t 2 4 3 9 4 2, 0 4 0, 1 0 0 3 1 4 2 5 3 6, 1 1 0 1 1 5")
	why(t, s, check.NC, fault(1, 0, -1, 2), fault(1, 0, -1, 3), fault(1, 1, -1, 1))
	ok(t, s.SetZero(3)) // 3 and 6 are together just K, 3 and 5 one less
	why(t, s, check.NC, fault(1, 0, -1, 3))
	drop(t, s, 0, 3)
	isOf(t, s, check.EDAC)
	ok(t, s.SetUnary(0, 3, 9)) // it isn't left
	isOf(t, s, check.EDAC)
	ok(t, s.SetZero(8))
	why(t, s, check.NC, fault(1, 0, -1, 1), fault(1, 0, -1, 2), fault(1, 1, -1, 1))
	ok(t, s.SetZero(9))
	why(t, s, check.NC, fault(1, 0, -1, 0), fault(1, 0, -1, 1), fault(1, 0, -1, 2), fault(1, 1, -1, 0), fault(1, 1, -1, 1))
}

func TestTheLeastTop(t *testing.T) {
	s := made(t, "t 1 2 0 1 2")
	isOf(t, s, check.EDAC)
	ok(t, s.SetUnary(0, 0, 1))
	why(t, s, check.EDAC, fault(1, 0, -1, 0))
	ok(t, s.SetUnary(0, 1, 1))
	why(t, s, check.EDAC, fault(1, 0, -1, -1), fault(1, 0, -1, 0), fault(1, 0, -1, 1), fault(4, 0, -1, -1))
	ok(t, s.SetUnary(0, 1, 0))
	ok(t, s.SetUnary(0, 0, 0))
	ok(t, s.SetZero(1))
	why(t, s, check.EDAC, fault(1, 0, -1, 0), fault(1, 0, -1, 1))
}

func TestTheGreatestTop(t *testing.T) {
	s := made(t, "t 1 2 1 2147483648 2, 1 0 0 1 1 2147483648")
	why(t, s, check.NC, fault(1, 0, -1, 1))
	ok(t, s.SetUnary(0, 1, top-1))
	isOf(t, s, check.EDAC)
	ok(t, s.SetZero(1))
	why(t, s, check.NC, fault(1, 0, -1, 1))
	ok(t, s.SetZero(top))
	why(t, s, check.NC, fault(1, 0, -1, 0), fault(1, 0, -1, 1))
}

func TestNoValueLeft(t *testing.T) {
	s := made(t, "t 3 2 0 9 2 2 1")
	add(t, s, 0, 0, 1)
	isOf(t, s, check.EDAC)
	drop(t, s, 1, 0, 1)
	why(t, s, check.EDAC, fault(1, 1, -1, -1),
		fault(2, 0, 0, 0), fault(2, 0, 0, 1),
		fault(3, 0, 0, 0), fault(3, 0, 0, 1),
		fault(4, 0, -1, -1), fault(4, 1, -1, -1))
	ok(t, s.Kill(0))
	why(t, s, check.EDAC, fault(1, 1, -1, -1), fault(4, 1, -1, -1))
	ok(t, s.Remove(state.Elim{Var: 1, Best: []int{-1}}))
	isOf(t, s, check.EDAC)
}

func TestGoneDoesNotCount(t *testing.T) {
	s := made(t, "t 2 2 3 9 2 2, 0 4 0, 1 0 5 0, 1 1 0 0")
	why(t, s, check.EDAC, fault(1, 0, -1, -1), fault(1, 0, -1, 0), fault(1, 0, -1, 1), fault(4, 0, -1, -1))
	ok(t, s.Remove(state.Elim{Var: 0, Best: []int{0}}))
	isOf(t, s, check.EDAC)
	ok(t, s.SetZero(9))
	why(t, s, check.EDAC, fault(1, 1, -1, 0), fault(1, 1, -1, 1))
	ok(t, s.Remove(state.Elim{Var: 1, Best: []int{0}}))
	isOf(t, s, check.EDAC) // no variable is left that says no
}

func TestTuplesOfTwo(t *testing.T) {
	s := made(t, "t 2 3 1 9 2 3, 2 0 1 3 3 0 0 0 1 1 0 1 2 0")
	isOf(t, s, check.EDAC)
	ok(t, s.SetCost(0, []int{1, 1}, 1))
	why(t, s, check.AC, fault(2, 1, 0, 1))
	isOf(t, s, check.NC)
	drop(t, s, 1, 1)
	isOf(t, s, check.EDAC)
	ok(t, s.SetCost(0, []int{0, 0}, 9))
	why(t, s, check.AC, fault(2, 0, 0, 0), fault(2, 1, 0, 0))
	drop(t, s, 0, 0)
	why(t, s, check.AC, fault(2, 1, 0, 0))
	ok(t, s.SetCost(0, []int{1, 0}, 0))
	isOf(t, s, check.EDAC)
}

// A tuple is free of values that aren't left, but that is of no use.
func TestTuplesOfThree(t *testing.T) {
	s := made(t, "t 3 2 1 9 2 2 2, 3 0 1 2 1 2 0 1 0 0 1 0 1 0")
	isOf(t, s, check.EDAC)
	ok(t, s.SetCost(0, []int{0, 1, 0}, 2))
	why(t, s, check.EDAC, fault(2, 0, 0, 0), fault(2, 1, 0, 1), fault(2, 2, 0, 0))
	ok(t, s.SetCost(0, []int{0, 0, 0}, 0))
	why(t, s, check.EDAC, fault(2, 1, 0, 1))
	drop(t, s, 2, 0)
	why(t, s, check.EDAC, fault(2, 0, 0, 0), fault(2, 1, 0, 1))
	drop(t, s, 1, 1)
	why(t, s, check.EDAC, fault(2, 0, 0, 0))
	drop(t, s, 0, 0)
	isOf(t, s, check.EDAC)
	ok(t, s.SetCost(0, []int{1, 0, 1}, 1))
	isOf(t, s, check.NC)
	ok(t, s.Kill(0))
	isOf(t, s, check.EDAC)
}

// The lower one needs what the higher one's unary costs say, but not the other way round.
func TestLowerAndHigher(t *testing.T) {
	for _, text := range []string{
		"t 2 2 1 9 2 2, 2 0 1 0 1 0 1 5",
		"t 2 2 1 9 2 2, 2 1 0 0 1 1 0 5", // the same, but told from the higher one
	} {
		s := made(t, text)
		isOf(t, s, check.EDAC)
		ok(t, s.SetUnary(1, 0, 4))
		why(t, s, check.EDAC, fault(3, 0, 0, 0))
		isOf(t, s, check.AC)
		drop(t, s, 0, 0)
		isOf(t, s, check.EDAC)
		s = made(t, text)
		ok(t, s.SetUnary(0, 1, 4)) // 0 0 is free still, but of 1 1 the cost of 0 isn't
		isOf(t, s, check.EDAC)
		s = made(t, text)
		ok(t, s.SetCost(0, []int{1, 0}, 1))
		isOf(t, s, check.EDAC)
		ok(t, s.SetUnary(1, 1, 1))
		why(t, s, check.FDAC, fault(3, 0, 0, 1))
		drop(t, s, 1, 1)
		why(t, s, check.FDAC, fault(2, 0, 0, 1), fault(3, 0, 0, 1))
	}
}

// Just two variables: of three the level is no more than AC asks for.
func TestThreeAreNotDirectional(t *testing.T) {
	s := made(t, "t 3 2 2 9 2 2 1, 1 1 0 1 1 4, 3 0 1 2 0 2 0 0 0 5 1 1 0 5")
	isOf(t, s, check.EDAC) // 0 of the variable 0 has but 0 1 0
	j := add(t, s, 0, 0, 1)
	isOf(t, s, check.EDAC)
	ok(t, s.SetCost(j, []int{0, 0}, 5))
	ok(t, s.SetCost(j, []int{1, 1}, 5))
	why(t, s, check.EDAC, fault(3, 0, j, 0))
	isOf(t, s, check.AC)
}

// A value serves in one function, another one in the other: neither in both.
func TestOneValueMustServe(t *testing.T) {
	s := made(t, "t 3 2 4 9 2 2 2, 1 0 0 1 1 3, 1 1 0 1 1 3, 2 0 2 0 1 0 0 1, 2 1 2 0 1 0 1 1")
	why(t, s, check.EDAC, fault(4, 2, -1, -1)) // 1 serves in 0 alone, 0 in 1 alone
	isOf(t, s, check.FDAC)
	ok(t, s.SetUnary(0, 1, 0))
	isOf(t, s, check.EDAC)
	ok(t, s.SetUnary(0, 1, 1))
	ok(t, s.SetCost(1, []int{0, 1}, 0))
	isOf(t, s, check.EDAC)
	ok(t, s.SetUnary(2, 1, 1))
	why(t, s, check.EDAC, fault(3, 0, 0, 0), fault(4, 0, -1, -1), fault(4, 2, -1, -1))
	ok(t, s.SetUnary(2, 1, 0))
	drop(t, s, 2, 1)
	why(t, s, check.EDAC, fault(2, 0, 0, 0), fault(3, 0, 0, 0), fault(4, 0, -1, -1), fault(4, 2, -1, -1))
}

// The one that serves must be left, and so must those that it is served by.
func TestTheServingValueIsLeft(t *testing.T) {
	s := made(t, "t 2 2 1 9 2 2, 2 0 1 1 2 0 0 0 1 1 0")
	isOf(t, s, check.EDAC)
	drop(t, s, 0, 0)
	why(t, s, check.EDAC, fault(2, 1, 0, 0))
	drop(t, s, 1, 1)
	why(t, s, check.EDAC, fault(2, 0, 0, 1), fault(2, 1, 0, 0), fault(3, 0, 0, 1), fault(4, 0, -1, -1), fault(4, 1, -1, -1))
}

// Whichever value serves, its own cost must be 0, too.
func TestTheServingValueIsFree(t *testing.T) {
	s := made(t, "t 3 2 1 9 2 1 1, 1 0 0 1 1 2")
	add(t, s, 0, 0, 1)
	isOf(t, s, check.EDAC)
	ok(t, s.SetUnary(0, 0, 2))
	ok(t, s.SetUnary(0, 1, 0))
	isOf(t, s, check.EDAC)
	j := add(t, s, 0, 0, 2)
	isOf(t, s, check.EDAC)
	ok(t, s.SetCost(j, []int{1, 0}, 1))
	why(t, s, check.EDAC, fault(2, 0, j, 1), fault(3, 0, j, 1), fault(4, 0, -1, -1), fault(4, 2, -1, -1))
	ok(t, s.SetUnary(0, 0, 0))
	why(t, s, check.EDAC, fault(2, 0, j, 1), fault(3, 0, j, 1))
}

// All faults of all levels, up to each of them.
func TestFaultsInOrder(t *testing.T) {
	s := made(t, "t 3 3 5 9 2 3 2, 0 3 0, 1 0 5 1 1 6, 1 2 4 1 1 7, 2 0 1 1 1 1 2 0, 2 1 2 2 2 1 0 0 2 1 0")
	all := []check.Fault{
		fault(1, 0, -1, -1), fault(1, 0, -1, 1), fault(1, 2, -1, -1), fault(1, 2, -1, 1),
		fault(2, 0, 0, 0), fault(2, 1, 0, 0), fault(2, 1, 0, 1), fault(2, 1, 1, 0),
		fault(3, 0, 0, 0), fault(3, 1, 1, 0), fault(3, 1, 1, 1), fault(3, 1, 1, 2),
		fault(4, 0, -1, -1), fault(4, 1, -1, -1), fault(4, 2, -1, -1),
	}
	for level, n := range []int{0, 4, 8, 12, 15} {
		why(t, s, level, all[:n]...)
	}
	isOf(t, s, check.None)
}

// A state of a high level's own words, but not of a lower one's, is of none of both.
func TestLevelsStandOnLowerOnes(t *testing.T) {
	s := made(t, "t 2 2 1 9 2 2, 1 0 0 1 1 9")
	add(t, s, 0, 0, 1)
	why(t, s, check.EDAC, fault(1, 0, -1, 1))
	isOf(t, s, check.None)
	s = made(t, "t 3 2 1 9 2 2 2, 3 0 1 2 0 4, 1 0 0 1, 1 0 1 1, 1 1 0 1, 1 1 1 1")
	why(t, s, check.EDAC, fault(2, 0, 0, 1))
	isOf(t, s, check.NC)
}

func TestFunctionsOfTheSameScope(t *testing.T) {
	s := made(t, "t 2 2 1 9 2 2, 2 0 1 0 2 0 0 1 1 1 1")
	j := add(t, s, 0, 0, 1)
	isOf(t, s, check.EDAC)
	ok(t, s.SetCost(j, []int{0, 1}, 2))
	ok(t, s.SetCost(j, []int{0, 0}, 2))
	why(t, s, check.EDAC, fault(2, 0, j, 0), fault(3, 0, j, 0))
	ok(t, s.Kill(0))
	why(t, s, check.EDAC, fault(2, 0, j, 0), fault(3, 0, j, 0))
	ok(t, s.Kill(j))
	isOf(t, s, check.EDAC)
}

func TestWrongLevels(t *testing.T) {
	s := made(t, "t 2 2 1 9 2 2, 2 0 1 1 0")
	before := look(t, s)
	for _, level := range []int{-1, 5, math.MinInt, math.MaxInt} {
		if is, e := check.Is(s, level); is || e != api.ErrArg {
			t.Errorf("Is(%d): %v, error %d", level, is, e)
		}
		if l, e := check.Why(s, level); len(l) > 0 || e != api.ErrArg {
			t.Errorf("Why(%d): %v, error %d", level, l, e)
		}
	}
	unchanged(t, s, before)
}

func TestNil(t *testing.T) {
	for _, level := range []int{-1, 0, 1, 4, 5, math.MinInt, math.MaxInt} {
		if is, e := check.Is(nil, level); is || e != api.ErrNone {
			t.Errorf("Is(%d): %v, error %d", level, is, e)
		}
		if l, e := check.Why(nil, level); len(l) > 0 || e != api.ErrNone {
			t.Errorf("Why(%d): %v, error %d", level, l, e)
		}
	}
	if level := check.Of(nil); level != check.None {
		t.Errorf("Of: %d", level)
	}
}

// What is answered is written over, and asked for again.
func TestAnswersAreNew(t *testing.T) {
	s := made(t, "t 2 2 1 9 2 2, 2 0 1 1 0")
	for range 2 {
		a, _ := check.Why(s, check.EDAC)
		b, _ := check.Why(s, check.EDAC)
		want := slices.Clone(b)
		clear(a[:cap(a)])
		if !slices.Equal(b, want) || b[0] != fault(2, 0, 0, 0) {
			t.Fatalf("the other answer is %v", b)
		}
	}
}
