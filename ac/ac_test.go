package ac_test

import (
	"fmt"
	"slices"
	"strings"
	"testing"

	"pennyweight/ac"
	"pennyweight/api"
	"pennyweight/check"
	"pennyweight/net"
	"pennyweight/state"
	"pennyweight/table"
	"pennyweight/wcsp"
)

func made(t *testing.T, text string) *state.State {
	t.Helper()
	f, at, e := wcsp.Read([]byte(strings.ReplaceAll(text, ",", "")))
	if e != api.OK {
		t.Fatalf("Read(%.99q): place %d, error %d", text, at, e)
	}
	n, e := net.Of(f)
	if e != api.OK {
		t.Fatalf("Of(%.99q): error %d", text, e)
	}
	return state.New(n)
}

func ok(t *testing.T, e api.Errno) {
	t.Helper()
	if e != api.OK {
		t.Fatalf("error %d", e)
	}
}

func is(t *testing.T, what string, e, want api.Errno) {
	t.Helper()
	if e != want {
		t.Errorf("%s: error %d, not %d", what, e, want)
	}
}

// shown is Zero, and of each variable the values that are left, with their costs.
func shown(s *state.State) string {
	text := fmt.Sprint(s.Zero())
	for i := range s.N() {
		text += ";"
		for v := range s.Dom(i).Values() {
			c, _ := s.Unary(i, v)
			text += fmt.Sprintf(" %d:%d", v, c)
		}
	}
	return text
}

func shows(t *testing.T, what string, s *state.State, want string) {
	t.Helper()
	if got := shown(s); got != want {
		t.Errorf("%s: %s, not %s", what, got, want)
	}
}

// costsOf are a function's, by the tuples' numbers.
func costsOf(s *state.State, j int) []int64 {
	var costs []int64
	var from func(t []int)
	from = func(t []int) {
		if len(t) == len(s.Scope(j)) {
			c, _ := s.Cost(j, t)
			costs = append(costs, c)
			return
		}
		for v := range s.Net().Size(s.Scope(j)[len(t)]) {
			from(append(t[:len(t):len(t)], v))
		}
	}
	from(nil)
	return costs
}

func same(t *testing.T, what string, got []int64, want ...int64) {
	t.Helper()
	if !slices.Equal(got, want) {
		t.Errorf("%s: %v, not %v", what, got, want)
	}
}

func toTheEnd(s *state.State) api.Errno {
	for {
		if changed, e := ac.Once(s); !changed {
			return e
		}
	}
}

// What is told is the same by whatever moves: there is but one state to come to.
func TestEnforce(t *testing.T) {
	for _, x := range []struct{ what, text, want string }{
		{"the chapter's example", "t 2 2 1 9 1 2, 2 0 1 3 0", "3; 0:0; 0:0 1:0"},
		{"nothing to do", "t 2 2 2 9 2 2, 2 0 1 0 1 0 1 4, 1 0 0 1 1 5", "0; 0:0 1:5; 0:0 1:0"},
		{"one function", "t 2 2 1 9 2 1, 2 0 1 0 2 0 0 4 1 0 2", "2; 0:2 1:0; 0:0"},
		{"several functions", "t 3 2 2 9 2 1 1, 2 0 1 0 1 0 0 4, 2 0 2 0 2 0 0 3 1 0 1", "1; 0:6 1:0; 0:0; 0:0"},
		{"several to the top", "t 3 2 2 9 2 1 1, 2 0 1 0 1 0 0 4, 2 0 2 0 1 0 0 5", "0; 1:0; 0:0; 0:0"},
		{"all tuples of one value are the top", "t 2 2 1 9 2 2, 2 0 1 0 2 0 0 9 0 1 9", "0; 1:0; 0:0 1:0"},
		{"no function", "t 1 2 1 9 2, 1 0 0 2 0 3 1 9", "3; 0:0"},
		{"of three variables", "t 3 2 1 9 1 2 1, 3 0 1 2 2 1 0 1 0 5", "2; 0:0; 0:0 1:3; 0:0"},
		{"of six variables", "t 6 2 1 9 1 1 1 1 1 2, 6 0 1 2 3 4 5 0 2 0 0 0 0 0 0 3 0 0 0 0 0 1 7", "3; 0:0; 0:0; 0:0; 0:0; 0:0; 0:0 1:4"},
		{"no tuple, for what isn't left", "t 3 2 3 9 2 2 2, 2 0 1 0 2 0 0 9 1 1 9, 2 1 2 0 2 0 0 9 1 1 9, 1 0 0 1 0 9", "0; 1:0; 0:0; 1:0"},
		{"a lowering makes others cost too much", "t 2 2 2 9 2 2, 2 0 1 4 2 0 0 9 0 1 9, 1 1 0 1 1 5", "4; 1:0; 0:0"},
		{"K 1", "t 3 3 2 1 3 3 3, 2 0 1 1 3 0 1 0 0 2 0 1 2 0, 2 1 2 1 3 0 1 0 0 2 0 1 2 0", "0; 0:0; 1:0; 2:0"},
		{"the greatest top", "t 2 2 2 2147483648 2 1, 0 1 0, 2 0 1 0 2 0 0 2147483647 1 0 2147483646", "2147483647; 1:0; 0:0"},
	} {
		for _, enforce := range []func(*state.State) api.Errno{ac.Enforce, toTheEnd} {
			s := made(t, x.text)
			is(t, x.what, enforce(s), api.OK)
			shows(t, x.what, s, x.want)
			if level := check.Of(s); level < check.AC {
				t.Errorf("%s: of the level %d", x.what, level)
			}
			is(t, x.what+", again", enforce(s), api.OK)
			shows(t, x.what+", again", s, x.want)
		}
	}
}

func TestEmpty(t *testing.T) {
	for _, x := range []struct{ what, text string }{
		{"all tuples are the top", "t 2 2 1 5 2 2, 2 0 1 5 0"},
		{"all of six variables", "t 6 1 1 5 1 1 1 1 1 1, 6 0 1 2 3 4 5 5 0"},
		{"with Zero", "t 2 1 2 5 1 1, 0 3 0, 2 0 1 2 0"},
		{"a Zero that is the top", "t 2 2 2 9 2 2, 0 9 0, 2 0 1 0 0"},
		{"one by one", "t 3 1 3 9 1 1 1, 2 0 1 4 0, 2 1 2 4 0, 2 0 2 1 0"},
		{"no value goes with all others", "t 3 2 3 9 2 2 2, 2 0 1 0 2 0 0 9 0 1 9, 2 0 2 0 2 1 0 9 1 1 9, 2 1 2 0 0"},
		{"a ring", "t 3 3 3 1 3 3 3, 2 0 1 1 3 0 1 0 0 2 0 1 2 0, 2 1 2 1 3 0 1 0 0 2 0 1 2 0, 2 0 2 1 3 1 0 0 2 0 0 2 1 0"},
		{"K 1", "t 2 1 1 1 1 1, 2 0 1 1 0"},
		{"the greatest top", "t 2 1 2 2147483648 1 1, 0 1 0, 2 0 1 2147483647 0"},
	} {
		for _, enforce := range []func(*state.State) api.Errno{ac.Enforce, toTheEnd} {
			s := made(t, x.text)
			is(t, x.what, enforce(s), api.ErrEmpty)
			if !wiped(s) {
				t.Errorf("%s: each variable has a value left: %s", x.what, shown(s))
			}
			behind := s.Facts()
			is(t, x.what+", again", enforce(s), api.ErrEmpty)
			same(t, x.what+", again", s.Facts(), behind...)
		}
	}
}

func wiped(s *state.State) bool {
	for i := range s.N() {
		if !s.Gone(i) && s.Dom(i).Len() == 0 {
			return true
		}
	}
	return false
}

// Where a variable has no value ahead, all else stays as it is.
func TestEmptyAhead(t *testing.T) {
	s := made(t, "t 3 2 2 9 2 2 2, 2 0 1 3 0, 2 0 2 4 0")
	ok(t, s.Drop(1, 0))
	ok(t, s.Drop(1, 1))
	is(t, "Enforce", ac.Enforce(s), api.ErrEmpty)
	changed, e := ac.Once(s)
	if is(t, "Once", e, api.ErrEmpty); changed {
		t.Error("Once: true")
	}
	shows(t, "the variables", s, "0; 0:0 1:0;; 0:0 1:0")
	same(t, "a function of it", costsOf(s, 0), 3, 3, 3, 3)
	same(t, "another one", costsOf(s, 1), 4, 4, 4, 4)
}

// A value is looked at again as soon as one that it needs isn't left: however
// long the row of those that need each other is, and to which end it leads.
func TestOneNeedsTheOther(t *testing.T) {
	for _, first := range []int{0, 5} {
		s := made(t, "t 6 2 5 9 2 2 2 2 2 2, 2 0 1 9 2 0 0 0 1 1 0, 2 1 2 9 2 0 0 0 1 1 0, 2 2 3 9 2 0 0 0 1 1 0, 2 3 4 9 2 0 0 0 1 1 0, 2 4 5 9 2 0 0 0 1 1 0")
		is(t, "of the level", ac.Enforce(s), api.OK)
		shows(t, "of the level", s, "0; 0:0 1:0; 0:0 1:0; 0:0 1:0; 0:0 1:0; 0:0 1:0; 0:0 1:0")
		ok(t, s.SetUnary(first, 0, 9))
		m := s.Mark()
		is(t, "Enforce", ac.Enforce(s), api.OK)
		shows(t, "Enforce", s, "0; 1:0; 1:0; 1:0; 1:0; 1:0; 1:0")
		ok(t, s.Undo(m))
		is(t, "Once to the end", toTheEnd(s), api.OK)
		shows(t, "Once to the end", s, "0; 1:0; 1:0; 1:0; 1:0; 1:0; 1:0")
	}
}

// By one lowering both lose a value that the other one's needs.
func TestBothNeedEachOther(t *testing.T) {
	for _, x := range []struct{ what, text, want string }{
		{"ahead of what is lowered", "t 4 3 4 10 3 3 1 1, 2 0 1 10 3 0 0 0 1 2 0 2 1 0, 2 2 3 5 0, 1 0 0 1 2 5, 1 1 0 1 2 5", "5; 0:0; 0:0; 0:0; 0:0"},
		{"behind it", "t 4 3 4 10 1 1 3 3, 2 0 1 5 0, 2 2 3 10 3 0 0 0 1 2 0 2 1 0, 1 2 0 1 2 5, 1 3 0 1 2 5", "5; 0:0; 0:0; 0:0; 0:0"},
	} {
		for _, enforce := range []func(*state.State) api.Errno{ac.Enforce, toTheEnd} {
			s := made(t, x.text)
			is(t, x.what, enforce(s), api.OK)
			shows(t, x.what, s, x.want)
		}
	}
}

// A function that isn't live is as if it weren't there.
func TestKilled(t *testing.T) {
	s := made(t, "t 2 2 1 9 2 1, 2 0 1 9 0")
	x, e := table.New([]int{2, 1}, 9, 2)
	ok(t, e)
	j, e := s.Add([]int{0, 1}, x)
	ok(t, e)
	m := s.Mark()
	ok(t, s.Kill(0))
	is(t, "one is killed", ac.Enforce(s), api.OK)
	shows(t, "one is killed", s, "2; 0:0 1:0; 0:0")
	ok(t, s.Undo(m))
	same(t, "undone", costsOf(s, 0), 9, 9)
	ok(t, s.Kill(0))
	ok(t, s.Kill(j))
	is(t, "both are killed", ac.Enforce(s), api.OK)
	changed, e := ac.Once(s)
	if is(t, "Once", e, api.OK); changed {
		t.Error("Once: true")
	}
	shows(t, "both are killed", s, "0; 0:0 1:0; 0:0")
}

// Of two functions with one scope each has what it costs taken out.
func TestTwice(t *testing.T) {
	s := made(t, "t 2 2 1 9 2 1, 2 0 1 0 1 0 0 4")
	x, e := table.New([]int{2, 1}, 9, 2)
	ok(t, e)
	ok(t, x.Put([]int{0, 0}, 3))
	_, e = s.Add([]int{0, 1}, x)
	ok(t, e)
	is(t, "Enforce", ac.Enforce(s), api.OK)
	shows(t, "Enforce", s, "2; 0:5 1:0; 0:0")
}

// One that is gone counts for nothing, with values or without, whatever they cost.
func TestGone(t *testing.T) {
	s := made(t, "t 4 2 3 9 1 2 2 2, 2 0 1 3 0, 1 2 4 0, 1 3 9 0")
	ok(t, s.Drop(2, 0))
	ok(t, s.Drop(2, 1))
	ok(t, s.Remove(state.Elim{Var: 2, Best: []int{0}}))
	ok(t, s.Remove(state.Elim{Var: 3, Best: []int{0}}))
	is(t, "Enforce", ac.Enforce(s), api.OK)
	shows(t, "Enforce", s, "3; 0:0; 0:0 1:0;; 0:9 1:9")
}

// Tuples with what isn't left count for nothing, and stay as they are.
func TestDropped(t *testing.T) {
	s := made(t, "t 2 3 1 9 2 3, 2 0 1 0 4 0 0 3 0 1 7 1 0 2 1 1 8")
	ok(t, s.Drop(1, 2))
	ok(t, s.Drop(0, 1))
	is(t, "Enforce", ac.Enforce(s), api.OK)
	shows(t, "Enforce", s, "3; 0:0; 0:0 1:4")
	same(t, "the costs", costsOf(s, 0), 0, 0, 0, 2, 8, 0)
}

// What can't be stays so, though costs beside it are taken out.
func TestTheTopStays(t *testing.T) {
	s := made(t, "t 2 2 1 9 2 2, 2 0 1 3 1 0 1 9")
	is(t, "Enforce", ac.Enforce(s), api.OK)
	shows(t, "Enforce", s, "3; 0:0 1:0; 0:0 1:0")
	same(t, "the costs", costsOf(s, 0), 0, 9, 0, 0)
}

// A step is one of NC's, or else all that can be projected.
func TestOnce(t *testing.T) {
	s := made(t, "t 3 2 3 9 2 1 1, 1 1 2 0, 2 0 1 0 2 0 0 4 1 0 3, 2 0 2 0 2 0 0 3 1 0 1")
	m := s.Mark()
	for _, want := range []string{
		"2; 0:0 1:0; 0:0; 0:0",
		"2; 0:7 1:4; 0:0; 0:0",
		"2; 1:4; 0:0; 0:0",
		"6; 1:0; 0:0; 0:0",
	} {
		changed, e := ac.Once(s)
		if shows(t, "a step", s, want); !changed || e != api.OK {
			t.Errorf("Once: %v, error %d", changed, e)
		}
	}
	for range 2 {
		changed, e := ac.Once(s)
		if shows(t, "behind the last one", s, "6; 1:0; 0:0; 0:0"); changed || e != api.OK {
			t.Errorf("Once: %v, error %d", changed, e)
		}
	}
	ok(t, s.Undo(m))
	shows(t, "undone", s, "0; 0:0 1:0; 0:2; 0:0")
	same(t, "undone", costsOf(s, 0), 4, 3)
}

// By the step that takes the last value it is ErrEmpty.
func TestOnceToEmpty(t *testing.T) {
	s := made(t, "t 2 1 1 9 1 1, 2 0 1 9 0")
	changed, e := ac.Once(s)
	if shows(t, "a step", s, "0; 0:9; 0:9"); !changed || e != api.OK {
		t.Errorf("Once: %v, error %d", changed, e)
	}
	changed, e = ac.Once(s)
	if !wiped(s) || changed || e != api.ErrEmpty {
		t.Errorf("Once: %v, error %d: %s", changed, e, shown(s))
	}
}

func TestUndo(t *testing.T) {
	s := made(t, "t 3 2 2 20 2 2 2, 2 0 1 0 4 0 0 3 0 1 5 1 0 4 1 1 2, 3 0 1 2 6 0")
	ahead := s.Facts()
	s.Mark()
	is(t, "Enforce", ac.Enforce(s), api.OK)
	behind := s.Facts()
	s.Mark()
	ok(t, s.SetCost(1, []int{0, 0, 0}, 20))
	ok(t, s.SetUnary(0, 1, 20))
	ok(t, s.SetUnary(1, 1, 20))
	ok(t, s.SetUnary(2, 1, 20))
	is(t, "Enforce of what can't be", ac.Enforce(s), api.ErrEmpty)
	if s.Depth() != 2 {
		t.Errorf("%d marks are open", s.Depth())
	}
	ok(t, s.Undo(1))
	same(t, "to the second mark", s.Facts(), behind...)
	ok(t, s.Undo(0))
	same(t, "to the first mark", s.Facts(), ahead...)
}

func TestNil(t *testing.T) {
	is(t, "Enforce", ac.Enforce(nil), api.ErrNone)
	if changed, e := ac.Once(nil); changed || e != api.ErrNone {
		t.Errorf("Once: %v, error %d", changed, e)
	}
}
