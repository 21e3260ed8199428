package move_test

import (
	"slices"
	"testing"

	"pennyweight/api"
	"pennyweight/move"
	"pennyweight/state"
)

func left(t *testing.T, s *state.State, i int, want ...int) {
	t.Helper()
	if l := slices.Collect(s.Dom(i).Values()); !slices.Equal(l, want) {
		t.Errorf("the values of %d that are left: %v, not %v", i, l, want)
	}
}

func zero(t *testing.T, s *state.State, want int64) {
	t.Helper()
	if s.Zero() != want {
		t.Errorf("Zero is %d, not %d", s.Zero(), want)
	}
}

func TestLower(t *testing.T) {
	s := made(t, "t 2 4 1 9 4 1, 1 0 0 4 0 5 1 3 2 9 3 4")
	is(t, "one more than the least", move.Lower(s, 0, 4), api.ErrIllegal)
	is(t, "some", move.Lower(s, 0, 1), api.OK)
	same(t, "the unary costs", unaries(t, s, 0), 4, 2, 9, 3)
	zero(t, s, 1)
	is(t, "one more than the least", move.Lower(s, 0, 3), api.ErrIllegal)
	is(t, "just the least", move.Lower(s, 0, 2), api.OK)
	same(t, "what can't be stays so", unaries(t, s, 0), 2, 0, 9, 1)
	zero(t, s, 3)
	is(t, "0 of none", move.Lower(s, 0, 0), api.OK)
	is(t, "1 of none", move.Lower(s, 0, 1), api.ErrIllegal)
	is(t, "1 of none", move.Lower(s, 1, 1), api.ErrIllegal)
	zero(t, s, 3)
}

func TestLowerOfWhatIsLeft(t *testing.T) {
	s := made(t, "t 1 4 1 9 4, 1 0 0 4 0 5 1 3 2 9 3 4")
	ok(t, s.Drop(0, 1))
	is(t, "one more than the least", move.Lower(s, 0, 5), api.ErrIllegal)
	is(t, "just the least", move.Lower(s, 0, 4), api.OK)
	same(t, "the unary costs", unaries(t, s, 0), 1, 3, 9, 0)
	ok(t, s.Drop(0, 3))
	ok(t, s.Drop(0, 0))
	is(t, "the top", move.Lower(s, 0, 9), api.OK)
	same(t, "the unary costs", unaries(t, s, 0), 1, 3, 9, 0)
	zero(t, s, 9)
	is(t, "some, where Zero is the top", move.Lower(s, 0, 2), api.OK)
	zero(t, s, 9)
}

func TestLowerUpToTheTop(t *testing.T) {
	s := made(t, "t 2 2 3 9 2 2, 0 4 0, 1 0 5 1 1 6, 1 1 6 0")
	is(t, "below it", move.Lower(s, 0, 4), api.OK)
	zero(t, s, 8)
	is(t, "it", move.Lower(s, 0, 1), api.OK)
	zero(t, s, 9)
	is(t, "beyond it", move.Lower(s, 1, 6), api.OK)
	zero(t, s, 9)
	same(t, "the unary costs of 0", unaries(t, s, 0), 0, 1)
	same(t, "the unary costs of 1", unaries(t, s, 1), 0, 0)
}

func TestRaise(t *testing.T) {
	s := made(t, "t 2 3 2 9 3 2, 0 5 0, 1 0 0 2 1 8 2 9")
	ok(t, s.Drop(0, 0))
	is(t, "one more than Zero", move.Raise(s, 0, 6), api.ErrIllegal)
	is(t, "some", move.Raise(s, 0, 1), api.OK)
	zero(t, s, 4)
	is(t, "one more than Zero", move.Raise(s, 0, 5), api.ErrIllegal)
	is(t, "some, beyond the top", move.Raise(s, 0, 1), api.OK)
	same(t, "of what is left", unaries(t, s, 0), 0, 9, 9)
	is(t, "just Zero", move.Raise(s, 1, 3), api.OK)
	same(t, "the unary costs", unaries(t, s, 1), 3, 3)
	zero(t, s, 0)
	is(t, "0 of none", move.Raise(s, 1, 0), api.OK)
	is(t, "1 of none", move.Raise(s, 1, 1), api.ErrIllegal)
	same(t, "the unary costs", unaries(t, s, 1), 3, 3)
}

func TestRaiseOfTheTop(t *testing.T) {
	s := made(t, "t 2 2 1 9 2 2, 0 9 0")
	is(t, "some", move.Raise(s, 0, 4), api.OK)
	zero(t, s, 9)
	same(t, "the unary costs", unaries(t, s, 0), 4, 4)
	is(t, "the top", move.Raise(s, 1, 9), api.OK)
	zero(t, s, 9)
	same(t, "the unary costs", unaries(t, s, 1), 9, 9)
}

func TestNoValueLeft(t *testing.T) {
	s := made(t, "t 2 2 3 9 2 2, 0 9 0, 1 0 9 0, 2 0 1 9 0")
	ok(t, s.Drop(0, 0))
	ok(t, s.Drop(0, 1))
	before := look(t, s)
	for _, c := range []int64{0, 1, 8, 9} {
		is(t, "Lower", move.Lower(s, 0, c), api.ErrIllegal)
		is(t, "Raise", move.Raise(s, 0, c), api.ErrIllegal)
	}
	for _, c := range []int64{-1, 10} {
		is(t, "Lower", move.Lower(s, 0, c), api.ErrRange)
		is(t, "Raise", move.Raise(s, 0, c), api.ErrRange)
	}
	for v := range 2 {
		is(t, "Prune", move.Prune(s, 0, v), api.ErrArg)
		is(t, "Assign", move.Assign(s, 0, v), api.ErrArg)
		is(t, "Project", move.Project(s, 0, 0, v, 0), api.ErrArg)
		is(t, "Extend", move.Extend(s, 0, 0, v, 0), api.ErrArg)
	}
	same(t, "the facts", s.Facts(), before.facts...)
	same(t, "the unary costs", unaries(t, s, 0), before.unary[0]...)
	is(t, "Raise of another one", move.Raise(s, 1, 9), api.OK)
}

func TestPrune(t *testing.T) {
	s := made(t, "t 1 5 2 9 5, 0 4 0, 1 0 0 5 0 5 1 4 2 6 3 9 4 0")
	is(t, "one less than the top", move.Prune(s, 0, 1), api.ErrIllegal)
	is(t, "far from it", move.Prune(s, 0, 4), api.ErrIllegal)
	left(t, s, 0, 0, 1, 2, 3, 4)
	is(t, "just the top", move.Prune(s, 0, 0), api.OK)
	is(t, "again", move.Prune(s, 0, 0), api.ErrArg)
	is(t, "more than the top", move.Prune(s, 0, 2), api.OK)
	is(t, "the top alone", move.Prune(s, 0, 3), api.OK)
	left(t, s, 0, 1, 4)
	same(t, "the unary costs", unaries(t, s, 0), 5, 4, 6, 9, 0)
	zero(t, s, 4)
	ok(t, s.SetZero(9))
	is(t, "a Zero that is the top", move.Prune(s, 0, 4), api.OK)
	is(t, "the last one", move.Prune(s, 0, 1), api.OK)
	left(t, s, 0)
	is(t, "of none", move.Prune(s, 0, 1), api.ErrArg)
}

func TestAssign(t *testing.T) {
	s := made(t, "t 2 4 2 9 4 2, 1 0 0 3 0 5 1 9 2 1, 2 0 1 2 0")
	is(t, "an assignment of what can't be", move.Assign(s, 0, 1), api.OK)
	left(t, s, 0, 1)
	left(t, s, 1, 0, 1)
	same(t, "the unary costs", unaries(t, s, 0), 5, 9, 1, 0)
	zero(t, s, 0)
	is(t, "of the only one", move.Assign(s, 0, 1), api.OK)
	left(t, s, 0, 1)
	for _, v := range []int{0, 2, 3, 4, -1} {
		is(t, "of what isn't left", move.Assign(s, 0, v), api.ErrArg)
	}
	left(t, s, 0, 1)
	is(t, "of the last value", move.Assign(s, 1, 1), api.OK)
	left(t, s, 1, 1)
	same(t, "the costs", costsOf(t, s, 0), 2, 2, 2, 2, 2, 2, 2, 2)
	room(t, s, 0, 0, 1, 2)
	for _, x := range []struct {
		a    []int
		want int64
	}{{[]int{1, 1}, 9}, {[]int{0, 1}, 9}, {[]int{3, 0}, 9}} {
		if c, e := s.Val(x.a); c != x.want || e != api.OK {
			t.Errorf("Val(%v): %d, error %d", x.a, c, e)
		}
	}
}

func TestAssignOfSomeOfMany(t *testing.T) {
	s := made(t, "t 1 32 1 2147483648 32, 1 0 2 1 31 7")
	ok(t, s.Drop(0, 5))
	is(t, "Assign", move.Assign(s, 0, 5), api.ErrArg)
	is(t, "Lower", move.Lower(s, 0, 2), api.OK)
	is(t, "Assign", move.Assign(s, 0, 31), api.OK)
	left(t, s, 0, 31)
	for v := range 32 {
		a := []int{v}
		if c, _ := s.Val(a); v < 31 && c != top || v == 31 && c != 7 {
			t.Errorf("Val(%d): %d", v, c)
		}
	}
	is(t, "Lower", move.Lower(s, 0, 5), api.OK)
	zero(t, s, 7)
}
