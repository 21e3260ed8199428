package nc_test

import (
	"fmt"
	"slices"
	"strings"
	"testing"

	"pennyweight/api"
	"pennyweight/check"
	"pennyweight/nc"
	"pennyweight/net"
	"pennyweight/state"
	"pennyweight/wcsp"
)

func made(t *testing.T, text string) *state.State {
	t.Helper()
	f, at, e := wcsp.Read([]byte(strings.ReplaceAll(text, ",", "")))
	if e != api.OK {
		t.Fatalf("Read(%.99q): place %d, error %d", text, at, e)
	}
	n, e := net.Of(f)
	if e != api.OK {
		t.Fatalf("Of(%.99q): error %d", text, e)
	}
	return state.New(n)
}

func ok(t *testing.T, e api.Errno) {
	t.Helper()
	if e != api.OK {
		t.Fatalf("error %d", e)
	}
}

func is(t *testing.T, what string, e, want api.Errno) {
	t.Helper()
	if e != want {
		t.Errorf("%s: error %d, not %d", what, e, want)
	}
}

// shown is Zero, and of each variable the values that are left, with their costs.
func shown(s *state.State) string {
	text := fmt.Sprint(s.Zero())
	for i := range s.N() {
		text += ";"
		for v := range s.Dom(i).Values() {
			c, _ := s.Unary(i, v)
			text += fmt.Sprintf(" %d:%d", v, c)
		}
	}
	return text
}

func shows(t *testing.T, what string, s *state.State, want string) {
	t.Helper()
	if got := shown(s); got != want {
		t.Errorf("%s: %s, not %s", what, got, want)
	}
}

func TestEnforce(t *testing.T) {
	for _, x := range []struct{ what, text, want string }{
		{"the chapter's example", "t 1 2 1 9 2, 1 0 0 2 0 1 1 9", "1; 0:0"},
		{"nothing to do", "t 2 2 2 9 2 2, 0 4 0, 1 0 0 1 1 4", "4; 0:0 1:4; 0:0 1:0"},
		{"no function at all", "t 2 2 0 9 2 1", "0; 0:0 1:0; 0:0"},
		{"just the top, and one less", "t 1 3 2 9 3, 0 4 0, 1 0 0 2 1 4 2 5", "4; 0:0 1:4"},
		{"the top itself", "t 1 3 1 9 3, 1 0 0 2 0 9 2 8", "0; 1:0 2:8"},
		{"none is 0", "t 1 3 1 9 3, 1 0 0 3 0 4 1 3 2 7", "3; 0:1 1:0 2:4"},
		{"one is 0", "t 1 3 1 9 3, 1 0 0 2 0 4 2 7", "0; 0:4 1:0 2:7"},
		{"alike", "t 1 3 1 9 3, 1 0 3 0", "3; 0:0 1:0 2:0"},
		{"a lower one makes the higher cost too much", "t 2 2 2 9 2 2, 1 0 3 0, 1 1 0 1 1 6", "3; 0:0 1:0; 0:0"},
		{"a higher one makes the lower cost too much", "t 2 2 2 9 2 2, 1 0 0 1 1 6, 1 1 3 0", "3; 0:0; 0:0 1:0"},
		{"by one less it doesn't", "t 2 2 2 9 2 2, 1 0 0 1 1 6, 1 1 2 0", "2; 0:0 1:6; 0:0 1:0"},
		{"each the other", "t 2 2 2 9 2 2, 1 0 0 2 0 4 1 7, 1 1 0 2 0 3 1 5", "7; 0:0; 0:0"},
		{"up to one less than the top", "t 3 1 3 9 1 1 1, 1 0 4 0, 1 1 4 0, 1 2 0 0", "8; 0:0; 0:0; 0:0"},
		{"K 1", "t 2 2 1 1 2 2, 1 1 0 1 0 1", "0; 0:0 1:0; 1:0"},
		{"the greatest top", "t 2 2 3 2147483648 2 2, 0 2 0, 1 0 0 2 0 2147483645 1 2147483644, 1 1 0 1 1 1", "2147483646; 0:1 1:0; 0:0 1:1"},
	} {
		s := made(t, x.text)
		is(t, x.what, nc.Enforce(s), api.OK)
		shows(t, x.what, s, x.want)
		if level := check.Of(s); level < check.NC {
			t.Errorf("%s: of the level %d", x.what, level)
		}
		is(t, x.what+", again", nc.Enforce(s), api.OK)
		shows(t, x.what+", again", s, x.want)
	}
}

func TestEmpty(t *testing.T) {
	for _, x := range []struct{ what, text string }{
		{"the top alone", "t 1 2 1 9 2, 1 0 9 0"},
		{"a Zero that is the top", "t 2 2 1 9 2 2, 0 9 0"},
		{"with Zero", "t 1 2 2 9 2, 0 4 0, 1 0 5 0"},
		{"one by one", "t 3 1 3 9 1 1 1, 1 0 4 0, 1 1 4 0, 1 2 1 0"},
		{"more than the top, one by one", "t 3 1 3 9 1 1 1, 1 0 8 0, 1 1 8 0, 1 2 8 0"},
		{"the top behind others", "t 2 2 2 9 1 2, 1 0 3 0, 1 1 0 2 0 9 1 6"},
		{"K 1", "t 2 2 1 1 2 2, 1 1 1 0"},
		{"the greatest top", "t 2 2 2 2147483648 2 2, 1 0 2147483647 0, 1 1 1 0"},
	} {
		for _, enforce := range []func(*state.State) api.Errno{nc.Enforce, toTheEnd} {
			s := made(t, x.text)
			is(t, x.what, enforce(s), api.ErrEmpty)
			wiped(t, x.what, s)
			behind := shown(s)
			is(t, x.what+", again", enforce(s), api.ErrEmpty)
			shows(t, x.what+", again", s, behind)
		}
	}
}

func wiped(t *testing.T, what string, s *state.State) {
	t.Helper()
	for i := range s.N() {
		if !s.Gone(i) && s.Dom(i).Len() == 0 {
			return
		}
	}
	t.Errorf("%s: each variable has a value left: %s", what, shown(s))
}

func toTheEnd(s *state.State) api.Errno {
	for {
		if changed, e := nc.Once(s); !changed {
			return e
		}
	}
}

// Where a variable has no value ahead, all the others stay as they are.
func TestEmptyAhead(t *testing.T) {
	s := made(t, "t 3 2 2 9 2 2 2, 1 0 3 0, 1 2 3 0")
	ok(t, s.Drop(1, 0))
	ok(t, s.Drop(1, 1))
	is(t, "Enforce", nc.Enforce(s), api.ErrEmpty)
	changed, e := nc.Once(s)
	is(t, "Once", e, api.ErrEmpty)
	if shows(t, "as it was", s, "0; 0:3 1:3;; 0:3 1:3"); changed {
		t.Error("Once: true")
	}
}

// One that is gone counts for nothing, with values or without, whatever they cost.
func TestGone(t *testing.T) {
	s := made(t, "t 3 2 3 9 2 2 2, 1 0 3 0, 1 1 9 0, 1 2 2 0")
	ok(t, s.Drop(0, 0))
	ok(t, s.Drop(0, 1))
	ok(t, s.Remove(state.Elim{Var: 0, Best: []int{0}}))
	ok(t, s.Remove(state.Elim{Var: 1, Best: []int{0}}))
	is(t, "Enforce", nc.Enforce(s), api.OK)
	shows(t, "only 2 is lowered", s, "2;; 0:9 1:9; 0:0 1:0")
	ok(t, s.SetZero(9))
	m := s.Mark()
	is(t, "Enforce, where Zero is the top", nc.Enforce(s), api.ErrEmpty)
	shows(t, "only 2 is pruned", s, "9;; 0:9 1:9;")
	ok(t, s.Undo(m))
	ok(t, s.Remove(state.Elim{Var: 2, Best: []int{0}}))
	is(t, "Enforce, where all are gone", nc.Enforce(s), api.OK)
	changed, e := nc.Once(s)
	is(t, "Once, where all are gone", e, api.OK)
	if shows(t, "as it was", s, "9;; 0:9 1:9; 0:0 1:0"); changed {
		t.Error("Once: true")
	}
}

// What isn't left counts for nothing, and stays as it is.
func TestDropped(t *testing.T) {
	s := made(t, "t 1 4 2 9 4, 0 1 0, 1 0 0 3 1 5 2 8 3 3")
	ok(t, s.Drop(0, 0))
	ok(t, s.Drop(0, 3))
	is(t, "Enforce", nc.Enforce(s), api.OK)
	shows(t, "one is left", s, "6; 1:0")
	for v, want := range map[int]int64{0: 0, 3: 3} {
		if c, _ := s.Unary(0, v); c != want {
			t.Errorf("the value %d costs %d, not %d", v, c, want)
		}
	}
}

// Functions stay as they are, whatever their tuples cost.
func TestFunctionsStay(t *testing.T) {
	s := made(t, "t 2 2 4 9 2 2, 1 0 3 0, 1 1 0 1 1 7, 2 0 1 4 1 0 0 9, 2 0 1 5 0")
	costs := func() []int64 {
		var l []int64
		for j := range s.Funs() {
			for n := range 4 {
				c, _ := s.Cost(j, []int{n / 2, n % 2})
				l = append(l, c)
			}
		}
		return l
	}
	were := costs()
	is(t, "Enforce", nc.Enforce(s), api.OK)
	shows(t, "behind", s, "3; 0:0 1:0; 0:0")
	if got := costs(); len(were) == 0 || !slices.Equal(got, were) {
		t.Errorf("the costs are %v, not %v", got, were)
	}
}

// A step is all there is to do to one variable, pruned or else lowered.
func TestOnce(t *testing.T) {
	s := made(t, "t 3 3 3 9 3 2 2, 1 0 0 3 0 9 1 2 2 6, 1 1 0 1 1 6, 1 2 3 0")
	m := s.Mark()
	for _, want := range []string{
		"0; 1:2 2:6; 0:0 1:6; 0:3 1:3",
		"2; 1:0 2:4; 0:0 1:6; 0:3 1:3",
		"5; 1:0 2:4; 0:0 1:6; 0:0 1:0",
		"5; 1:0; 0:0 1:6; 0:0 1:0",
		"5; 1:0; 0:0; 0:0 1:0",
	} {
		changed, e := nc.Once(s)
		if shows(t, "a step", s, want); !changed || e != api.OK {
			t.Errorf("Once: %v, error %d", changed, e)
		}
	}
	for range 2 {
		changed, e := nc.Once(s)
		if shows(t, "behind the last one", s, "5; 1:0; 0:0; 0:0 1:0"); changed || e != api.OK {
			t.Errorf("Once: %v, error %d", changed, e)
		}
	}
	ok(t, s.Undo(m))
	shows(t, "undone", s, "0; 0:9 1:2 2:6; 0:0 1:6; 0:3 1:3")
}

// By the step that takes the last value it is ErrEmpty.
func TestOnceToEmpty(t *testing.T) {
	s := made(t, "t 2 2 2 9 2 2, 1 0 4 0, 1 1 5 0")
	changed, e := nc.Once(s)
	if shows(t, "a step", s, "4; 0:0 1:0; 0:5 1:5"); !changed || e != api.OK {
		t.Errorf("Once: %v, error %d", changed, e)
	}
	changed, e = nc.Once(s)
	if shows(t, "the last step", s, "4; 0:0 1:0;"); changed || e != api.ErrEmpty {
		t.Errorf("Once: %v, error %d", changed, e)
	}
}

func TestUndo(t *testing.T) {
	s := made(t, "t 2 3 2 9 3 2, 1 0 0 3 0 2 1 9 2 4, 1 1 0 2 0 3 1 5")
	ahead := s.Facts()
	s.Mark()
	is(t, "Enforce", nc.Enforce(s), api.OK)
	behind := s.Facts()
	s.Mark()
	ok(t, s.SetZero(9))
	is(t, "Enforce of the top", nc.Enforce(s), api.ErrEmpty)
	if s.Depth() != 2 {
		t.Errorf("%d marks are open", s.Depth())
	}
	ok(t, s.Undo(1))
	if !slices.Equal(s.Facts(), behind) {
		t.Errorf("to the second mark: %s", shown(s))
	}
	ok(t, s.Undo(0))
	if !slices.Equal(s.Facts(), ahead) {
		t.Errorf("to the first mark: %s", shown(s))
	}
}

func TestNil(t *testing.T) {
	is(t, "Enforce", nc.Enforce(nil), api.ErrNone)
	if changed, e := nc.Once(nil); changed || e != api.ErrNone {
		t.Errorf("Once: %v, error %d", changed, e)
	}
}
