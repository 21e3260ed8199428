package elim_test

import (
	"slices"
	"testing"

	"pennyweight/api"
	"pennyweight/elim"
	"pennyweight/state"
)

// star has a variable of 2 values that stands with three others, and one alone:
// of 0 and 1 the costs are 3 5, 2 1, of 0, 2 and 3 all are 4 but of 1 1 1.
const star = "t 5 2 4 20 2 2 2 2 2, 1 0 0 1 1 7, 2 0 1 0 4 0 0 3 0 1 5 1 0 2 1 1 1, 3 0 2 3 4 1 1 1 1 0, 1 4 6 1 1 5"

func is(t *testing.T, what string, e, want api.Errno) {
	t.Helper()
	if e != want {
		t.Errorf("%s: error %d, not %d", what, e, want)
	}
}

func drop(t *testing.T, s *state.State, i int, values ...int) {
	t.Helper()
	for _, v := range values {
		ok(t, s.Drop(i, v))
	}
}

func degrees(t *testing.T, s *state.State, want ...int) {
	t.Helper()
	for i, d := range want {
		if got := elim.Degree(s, i); got != d {
			t.Errorf("Degree(%d): %d, not %d", i, got, d)
		}
	}
}

// last asks for the Elim that was kept last.
func last(t *testing.T, s *state.State, i int, scope []int, best ...int) {
	t.Helper()
	l := s.Elims()
	if len(l) == 0 {
		t.Fatal("there are no Elims")
	}
	if e := l[len(l)-1]; e.Var != i || !slices.Equal(e.Scope, scope) || !slices.Equal(e.Best, best) {
		t.Errorf("the last Elim is %v, not %d %v %v", e, i, scope, best)
	}
	if !s.Gone(i) || len(s.Near(i)) > 0 {
		t.Errorf("Gone(%d): %v, near %v", i, s.Gone(i), s.Near(i))
	}
}

func same(t *testing.T, what string, got []int64, want ...int64) {
	t.Helper()
	if !slices.Equal(got, want) {
		t.Errorf("%s: %v, not %v", what, got, want)
	}
}

func all(t *testing.T, s *state.State, most int, want ...int) {
	t.Helper()
	if out, e := elim.All(s, most); !slices.Equal(out, want) || e != api.OK {
		t.Errorf("All(%d): %v, error %d, not %v", most, out, e, want)
	}
}

func rebuild(t *testing.T, s *state.State, a, want []int, wrong api.Errno) {
	t.Helper()
	if x, e := elim.Rebuild(s, a); !slices.Equal(x, want) || e != wrong {
		t.Errorf("Rebuild(%v): %v, error %d, not %v, error %d", a, x, e, want, wrong)
	}
}

func TestExample(t *testing.T) {
	s := made(t, "t 2 2 1 9 2 2, 2 0 1 0 3 0 1 5 1 0 2 1 1 1")
	is(t, "Eliminate", elim.Eliminate(s, 1, 1), api.OK)
	same(t, "the unary costs of 0", look(t, s).unary[0], 0, 1)
	last(t, s, 1, []int{0}, 0, 1)
}

func TestDegree(t *testing.T) {
	s := made(t, star)
	degrees(t, s, 3, 1, 2, 2, 0)
	j := add(t, s, 1, 1, 4)
	degrees(t, s, 3, 2, 2, 2, 1)
	add(t, s, 1, 0, 1) // these stand together already
	degrees(t, s, 3, 2, 2, 2, 1)
	ok(t, s.Kill(j))
	ok(t, s.Kill(0))
	degrees(t, s, 3, 1, 2, 2, 0)
	ok(t, s.Kill(1))
	degrees(t, s, 1, 1, 0, 0, 0)
	ok(t, s.Remove(state.Elim{Var: 3, Best: []int{0}}))
	degrees(t, s, 1, 1, 0, 0, 0)
	drop(t, s, 1, 0, 1)
	degrees(t, s, 1, 1, 0, 0, 0) // whatever is left
}

func TestCanAtJustTheDegree(t *testing.T) {
	s := made(t, star)
	for i, d := range []int{3, 1, 2, 2, 0} {
		for most := range 4 {
			want := api.OK
			if most < d {
				want = api.ErrDegree
			}
			is(t, "Can", elim.Can(s, i, most), want)
		}
		is(t, "Can up to one more than MaxDegree", elim.Can(s, i, api.MaxDegree+1), api.ErrArg)
		is(t, "Can up to -1", elim.Can(s, i, -1), api.ErrArg)
	}
	add(t, s, 0, 0, 4)
	is(t, "Can of four", elim.Can(s, 0, api.MaxDegree), api.ErrDegree)
}

// The sizes count, not which values are left.
func TestCanOfGreatTables(t *testing.T) {
	s := made(t, "t 4 32 3 9 16 16 17 16, 2 0 1 1 0, 2 1 3 1 0, 2 1 2 1 0")
	ok(t, s.Kill(1))
	is(t, "just MaxTable tuples", elim.Can(s, 1, 2), api.OK)
	is(t, "of two", elim.Can(s, 0, 2), api.OK)
	j := add(t, s, 1, 0, 2)
	is(t, "more than MaxTable tuples", elim.Can(s, 0, 2), api.ErrDegree)
	drop(t, s, 0, 0, 1, 2, 3)
	is(t, "more than MaxTable tuples", elim.Can(s, 0, 2), api.ErrDegree)
	before := look(t, s)
	is(t, "Eliminate", elim.Eliminate(s, 0, 3), api.ErrDegree)
	if got := look(t, s); !slices.Equal(got.facts, before.facts) {
		t.Error("the state was changed")
	}
	ok(t, s.Kill(j))
	is(t, "Eliminate", elim.Eliminate(s, 1, 2), api.OK)
	if j := s.Find([]int{0, 3}); j < 0 {
		t.Error("no function was made")
	}
}

func TestCanOfThreeOthers(t *testing.T) {
	for text, want := range map[string]api.Errno{
		"t 4 32 3 9 8 8 8 8, 2 0 1 1 0, 2 0 2 1 0, 2 0 3 1 0":   api.OK,
		"t 4 32 3 9 32 2 2 32, 2 0 1 1 0, 2 0 2 1 0, 2 0 3 1 0": api.OK,
		"t 4 32 3 9 8 8 8 9, 2 0 1 1 0, 2 0 2 1 0, 2 0 3 1 0":   api.ErrDegree,
		"t 4 32 3 9 9 8 8 8, 2 0 1 1 0, 2 0 2 1 0, 2 0 3 1 0":   api.ErrDegree,
		"t 4 32 3 9 32 1 5 32, 2 0 1 1 0, 2 0 2 1 0, 2 0 3 1 0": api.ErrDegree,
	} {
		is(t, text, elim.Can(made(t, text), 0, 3), want)
	}
}

func TestIntoZero(t *testing.T) {
	s := made(t, star)
	ok(t, s.SetZero(2))
	is(t, "Eliminate", elim.Eliminate(s, 4, 0), api.OK)
	last(t, s, 4, nil, 1)
	same(t, "Zero", []int64{s.Zero()}, 7)
	is(t, "again", elim.Eliminate(s, 4, 0), api.ErrArg)
	s = made(t, star)
	drop(t, s, 4, 1)
	ok(t, s.SetZero(14))
	is(t, "Eliminate", elim.Eliminate(s, 4, 3), api.OK)
	last(t, s, 4, nil, 0)
	same(t, "Zero up to the top", []int64{s.Zero()}, 20)
}

func TestIntoUnaryCosts(t *testing.T) {
	s := made(t, star)
	ok(t, s.SetUnary(1, 1, 2))
	is(t, "Eliminate", elim.Eliminate(s, 1, 1), api.OK)
	same(t, "the unary costs of 0", look(t, s).unary[0], 3, 9)
	last(t, s, 1, []int{0}, 0, 0)
	s = made(t, star)
	ok(t, s.SetUnary(0, 1, 18))
	drop(t, s, 1, 0)
	is(t, "Eliminate", elim.Eliminate(s, 1, 1), api.OK)
	same(t, "the unary costs of 0, nearly to the top", look(t, s).unary[0], 5, 19)
	last(t, s, 1, []int{0}, 1, 1)
	s = made(t, star)
	ok(t, s.SetUnary(0, 0, 17))
	drop(t, s, 1, 0)
	is(t, "Eliminate", elim.Eliminate(s, 1, 1), api.OK)
	same(t, "the unary costs of 0, up to the top", look(t, s).unary[0], 20, 8)
}

func TestIntoAFunction(t *testing.T) {
	s := made(t, star)
	j := add(t, s, 2, 0, 3)
	first := add(t, s, 1, 0, 2)
	other := add(t, s, 1, 0, 2)
	ok(t, s.SetCost(first, []int{1, 1}, 17))
	ok(t, s.SetUnary(3, 0, 1))
	ok(t, s.Kill(j))
	is(t, "Eliminate", elim.Eliminate(s, 3, 2), api.OK)
	w := look(t, s)
	same(t, "the first of that scope", w.costs[first], 5, 5, 5, 17)
	same(t, "the other one", w.costs[other], 1, 1, 1, 1)
	last(t, s, 3, []int{0, 2}, 1, 1, 1, 1)
	if len(w.live) != other+1 || w.live[1] {
		t.Errorf("the functions: live %v", w.live)
	}
	ok(t, s.Kill(0))
	is(t, "Eliminate", elim.Eliminate(s, 2, 1), api.OK) // of both
	same(t, "the unary costs of 0", look(t, s).unary[0], 6, 13)
}

func TestIntoANewFunction(t *testing.T) {
	s := made(t, star)
	ok(t, s.SetUnary(3, 1, 1))
	is(t, "Eliminate", elim.Eliminate(s, 3, 2), api.OK)
	j := s.Find([]int{0, 2})
	if j != 2 {
		t.Fatalf("the new function is %d", j)
	}
	same(t, "its costs", look(t, s).costs[j], 4, 4, 4, 1)
	last(t, s, 3, []int{0, 2}, 0, 0, 0, 1)
	degrees(t, s, 2, 1, 1, 0, 0)
	is(t, "Eliminate", elim.Eliminate(s, 0, 2), api.OK) // 0 and 4 of 0, 7 and 4 of 1
	j = s.Find([]int{1, 2})
	if j != 3 || s.Funs() != 4 {
		t.Fatalf("the new function is %d of %d", j, s.Funs())
	}
	same(t, "its costs", look(t, s).costs[j], 7, 7, 9, 9)
	last(t, s, 0, []int{1, 2}, 0, 0, 0, 0)
}

func TestIntoAFunctionOfThree(t *testing.T) {
	s := made(t, star)
	is(t, "Eliminate", elim.Eliminate(s, 0, 3), api.OK)
	j := s.Find([]int{1, 2, 3})
	if j != 2 {
		t.Fatalf("the new function is %d", j)
	}
	same(t, "its costs", look(t, s).costs[j], 7, 7, 7, 7, 9, 9, 9, 8)
	last(t, s, 0, []int{1, 2, 3}, 0, 0, 0, 0, 0, 0, 0, 1)
	degrees(t, s, 0, 2, 2, 2, 0)
}

// Where i stands among the others doesn't matter.
func TestInTheMiddle(t *testing.T) {
	s := made(t, "t 3 3 3 50 2 3 2, 1 1 0 2 1 1 2 4, 2 0 1 0 6 0 0 9 0 1 3 0 2 5 1 0 7 1 1 8 1 2 2, 3 0 1 2 0 4 0 0 1 6 0 1 1 7 1 0 1 1 1 2 1 3")
	is(t, "Eliminate", elim.Eliminate(s, 1, 2), api.OK)
	j := s.Find([]int{0, 2})
	same(t, "the costs", look(t, s).costs[j], 4, 9, 6, 8)
	last(t, s, 1, []int{0, 2}, 1, 2, 2, 0)
}

func TestBestOfSeveral(t *testing.T) {
	s := made(t, "t 2 4 2 9 4 3, 1 0 0 2 0 3 3 9, 2 0 1 5 3 3 1 0 2 2 4 0 2 2")
	is(t, "Eliminate", elim.Eliminate(s, 0, 1), api.OK)
	same(t, "the unary costs", look(t, s).unary[1], 5, 5, 4)
	last(t, s, 0, []int{1}, 1, 1, 2)
	s = made(t, "t 2 4 1 9 4 3, 2 0 1 5 3 3 1 0 2 2 4 0 2 2")
	drop(t, s, 0, 1)
	is(t, "Eliminate", elim.Eliminate(s, 0, 1), api.OK)
	same(t, "the unary costs", look(t, s).unary[1], 5, 0, 2)
	last(t, s, 0, []int{1}, 0, 3, 0)
}

// A least cost that is K is one that a value has, if any is left.
func TestBestOfTheTop(t *testing.T) {
	s := made(t, "t 2 3 2 9 3 2, 1 0 5 0, 2 0 1 4 1 2 1 3")
	is(t, "Eliminate", elim.Eliminate(s, 0, 1), api.OK)
	same(t, "the unary costs", look(t, s).unary[1], 9, 8)
	last(t, s, 0, []int{1}, 0, 2)
	rebuild(t, s, []int{0, 0}, []int{0, 0}, api.OK)
	s = made(t, "t 1 3 1 2147483648 3, 1 0 2147483648 0")
	drop(t, s, 0, 0)
	is(t, "Eliminate", elim.Eliminate(s, 0, 0), api.OK)
	same(t, "Zero", []int64{s.Zero()}, top)
	last(t, s, 0, nil, 1)
	rebuild(t, s, []int{0}, []int{1}, api.OK)
}

func TestNoValueLeft(t *testing.T) {
	s := made(t, star)
	drop(t, s, 4, 0, 1)
	is(t, "Eliminate", elim.Eliminate(s, 4, 0), api.OK)
	same(t, "Zero", []int64{s.Zero()}, 20)
	last(t, s, 4, nil, -1)
	s = made(t, star)
	drop(t, s, 1, 1, 0)
	is(t, "Eliminate", elim.Eliminate(s, 1, 1), api.OK)
	same(t, "the unary costs of 0", look(t, s).unary[0], 20, 20)
	last(t, s, 1, []int{0}, -1, -1)
	drop(t, s, 2, 0, 1)
	is(t, "Eliminate", elim.Eliminate(s, 2, 2), api.OK)
	same(t, "the costs", look(t, s).costs[2], 20, 20, 20, 20)
	last(t, s, 2, []int{0, 3}, -1, -1, -1, -1)
	rebuild(t, s, []int{0, 0, 0, 0, 0}, nil, api.ErrEmpty)
}

func TestAllInOrder(t *testing.T) {
	all(t, made(t, star), 0, 4)
	all(t, made(t, star), 1, 4, 1)
	all(t, made(t, star), 2, 4, 1, 0, 2, 3)
	all(t, made(t, star), 3, 4, 1, 0, 2, 3)
	chain := "t 4 2 3 9 2 2 2 2, 2 0 2 1 0, 2 2 3 1 0, 2 1 3 1 0"
	all(t, made(t, chain), 0)
	all(t, made(t, chain), 1, 0, 1, 2, 3)
	ring := "t 4 2 4 9 2 2 2 2, 2 0 1 1 0, 2 1 2 1 0, 2 2 3 1 0, 2 0 3 1 0"
	all(t, made(t, ring), 1)
	all(t, made(t, ring), 2, 0, 1, 2, 3)
	clique := "t 5 2 5 9 2 2 2 2 2, 4 0 1 2 3 1 0, 2 0 4 1 0, 2 1 4 1 0, 2 2 4 1 0, 2 3 4 1 0"
	all(t, made(t, clique), 3)
	clique = "t 4 2 1 9 2 2 2 2, 4 0 1 2 3 1 0"
	all(t, made(t, clique), 2)
	all(t, made(t, clique), 3, 0, 1, 2, 3)
}

// One whose table would be too great is passed by, till it wouldn't be any more.
func TestAllOfGreatTables(t *testing.T) {
	s := made(t, "t 4 32 4 9 32 16 16 32, 2 0 1 1 0, 2 0 2 1 0, 2 1 3 1 0, 2 2 3 1 0")
	before := s.Facts()
	all(t, s, 3)
	if !slices.Equal(s.Facts(), before) {
		t.Error("the state was changed")
	}
	s = made(t, "t 4 32 4 9 32 4 4 32, 2 0 1 1 0, 2 0 2 1 0, 2 1 3 1 0, 2 2 3 1 0")
	all(t, s, 3, 0, 1, 2, 3)
	s = made(t, "t 4 32 4 9 5 32 32 5, 2 0 1 1 0, 2 0 2 1 0, 2 1 3 1 0, 2 2 3 1 0")
	all(t, s, 3, 1, 0, 2, 3)
	same(t, "Zero", []int64{s.Zero()}, 4)
	s = made(t, "t 3 32 3 9 17 16 16, 2 0 1 1 0, 2 0 2 1 0, 1 1 2 0")
	all(t, s, 3, 1, 0, 2)
}

func TestAllOfNoneLeft(t *testing.T) {
	s := made(t, star)
	all(t, s, 3, 4, 1, 0, 2, 3)
	all(t, s, 3)
	all(t, s, 0)
	same(t, "Zero", []int64{s.Zero()}, 12) // 3 of 0 0, 4, 5
	rebuild(t, s, []int{9, -1, 5, 7, 9}, []int{0, 0, 0, 0, 1}, api.OK)
}

// The one that went last is found first, by it the one ahead.
func TestRebuildInOrder(t *testing.T) {
	s := made(t, "t 3 3 2 20 3 3 3, 2 0 1 9 3 0 1 0 1 2 0 2 0 0, 2 1 2 9 3 0 2 0 1 0 0 2 1 0")
	is(t, "Eliminate", elim.Eliminate(s, 0, 1), api.OK)
	is(t, "Eliminate", elim.Eliminate(s, 1, 1), api.OK)
	for v, want := range [][]int{{0, 1, 0}, {1, 2, 1}, {2, 0, 2}} {
		rebuild(t, s, []int{5, 5, v}, want, api.OK)
	}
	m := s.Mark()
	is(t, "Eliminate", elim.Eliminate(s, 2, 0), api.OK)
	rebuild(t, s, []int{2, 2, 2}, []int{0, 1, 0}, api.OK)
	ok(t, s.Undo(m))
	rebuild(t, s, []int{0, 0, 2}, []int{2, 0, 2}, api.OK)
}

func TestRebuildOfNoneGone(t *testing.T) {
	s := made(t, star)
	rebuild(t, s, []int{1, 0, 1, 0, 1}, []int{1, 0, 1, 0, 1}, api.OK)
	drop(t, s, 2, 1)
	rebuild(t, s, []int{1, 0, 1, 0, 1}, nil, api.ErrRange)
	rebuild(t, s, []int{1, 0, 0, 0, 1}, []int{1, 0, 0, 0, 1}, api.OK)
}

// A Best of -1 counts just where it is asked for.
func TestRebuildOfEmpty(t *testing.T) {
	s := made(t, star)
	ok(t, s.Remove(state.Elim{Var: 4, Scope: []int{1, 3}, Best: []int{1, -1, 0, 1}}))
	rebuild(t, s, []int{0, 0, 0, 0, 7}, []int{0, 0, 0, 0, 1}, api.OK)
	rebuild(t, s, []int{0, 0, 0, 1, 7}, nil, api.ErrEmpty)
	rebuild(t, s, []int{0, 1, 0, 0, 7}, []int{0, 1, 0, 0, 0}, api.OK)
	rebuild(t, s, []int{0, 1, 0, 1, 7}, []int{0, 1, 0, 1, 1}, api.OK)
	rebuild(t, s, []int{0, 0, 0, 2, 7}, nil, api.ErrRange) // ahead of ErrEmpty
	drop(t, s, 0, 0)
	rebuild(t, s, []int{0, 0, 0, 1, 7}, nil, api.ErrRange)
}

// A Scope may be longer than any function's, and the Best than any table.
func TestRebuildOfLongScopes(t *testing.T) {
	s := made(t, "t 9 2 0 9 2 1 1 1 2 1 1 1 2")
	ok(t, s.Remove(state.Elim{Var: 0, Scope: []int{1, 2, 3, 4, 5, 6, 7, 8}, Best: []int{0, 1, 1, 0}}))
	for n, want := range []int{0, 1, 1, 0} {
		a := []int{0, 0, 0, 0, n / 2, 0, 0, 0, n % 2}
		whole := slices.Clone(a)
		whole[0] = want
		rebuild(t, s, a, whole, api.OK)
	}
	s = made(t, "t 4 32 0 9 3 32 32 32")
	best := make([]int, 32*32*32)
	best[(17*32+31)*32+4] = 2
	ok(t, s.Remove(state.Elim{Var: 0, Scope: []int{1, 2, 3}, Best: best}))
	rebuild(t, s, []int{0, 17, 31, 4}, []int{2, 17, 31, 4}, api.OK)
	rebuild(t, s, []int{0, 17, 31, 5}, []int{0, 17, 31, 5}, api.OK)
}

// What is handed in stays, with its spare room; what is answered is new.
func TestMemory(t *testing.T) {
	s := made(t, star)
	is(t, "Eliminate", elim.Eliminate(s, 1, 1), api.OK)
	is(t, "Eliminate", elim.Eliminate(s, 3, 2), api.OK)
	before := look(t, s)
	room := []int{0, 9, 1, 8, 0, 7, 7, 7}
	a := room[:5]
	x, e := elim.Rebuild(s, a)
	ok(t, e)
	y, e := elim.Rebuild(s, a)
	ok(t, e)
	for p := range x[:cap(x)] {
		x[:cap(x)][p] = 6
	}
	if !slices.Equal(room, []int{0, 9, 1, 8, 0, 7, 7, 7}) || !slices.Equal(y, []int{0, 0, 1, 0, 0}) {
		t.Errorf("a is %v, the other answer %v", room, y)
	}
	unchanged(t, s, before)
	m := s.Mark()
	out, e := elim.All(s, 3)
	ok(t, e)
	last := look(t, s)
	for p := range out[:cap(out)] {
		out[:cap(out)][p] = 6
	}
	unchanged(t, s, last)
	ok(t, s.Undo(m))
	unchanged(t, s, before)
}
