package dac_test

import (
	"fmt"
	"slices"
	"strings"
	"testing"

	"pennyweight/api"
	"pennyweight/check"
	"pennyweight/dac"
	"pennyweight/net"
	"pennyweight/state"
	"pennyweight/wcsp"
)

func made(t *testing.T, text string) *state.State {
	t.Helper()
	f, at, e := wcsp.Read([]byte(strings.ReplaceAll(text, ",", "")))
	if e != api.OK {
		t.Fatalf("Read(%.99q): place %d, error %d", text, at, e)
	}
	n, e := net.Of(f)
	if e != api.OK {
		t.Fatalf("Of(%.99q): error %d", text, e)
	}
	return state.New(n)
}

func ok(t *testing.T, e api.Errno) {
	t.Helper()
	if e != api.OK {
		t.Fatalf("error %d", e)
	}
}

func is(t *testing.T, what string, e, want api.Errno) {
	t.Helper()
	if e != want {
		t.Errorf("%s: error %d, not %d", what, e, want)
	}
}

// shown is Zero, and of each variable the values that are left, with their costs.
func shown(s *state.State) string {
	text := fmt.Sprint(s.Zero())
	for i := range s.N() {
		text += ";"
		for v := range s.Dom(i).Values() {
			c, _ := s.Unary(i, v)
			text += fmt.Sprintf(" %d:%d", v, c)
		}
	}
	return text
}

func shows(t *testing.T, what string, s *state.State, want string) {
	t.Helper()
	if got := shown(s); got != want {
		t.Errorf("%s: %s, not %s", what, got, want)
	}
}

// tuplesOf are all of these variables, in layer 3's order.
func tuplesOf(s *state.State, scope []int) [][]int {
	all := [][]int{nil}
	for _, i := range scope {
		var longer [][]int
		for _, x := range all {
			for v := range s.Net().Size(i) {
				longer = append(longer, append(slices.Clone(x), v))
			}
		}
		all = longer
	}
	return all
}

// costsOf are a function's, by the tuples' numbers.
func costsOf(s *state.State, j int) []int64 {
	var costs []int64
	for _, x := range tuplesOf(s, s.Scope(j)) {
		c, _ := s.Cost(j, x)
		costs = append(costs, c)
	}
	return costs
}

// valsOf are those of all assignments.
func valsOf(s *state.State) []int64 {
	var vars []int
	for i := range s.N() {
		vars = append(vars, i)
	}
	var vals []int64
	for _, a := range tuplesOf(s, vars) {
		c, _ := s.Val(a)
		vals = append(vals, c)
	}
	return vals
}

func same(t *testing.T, what string, got []int64, want ...int64) {
	t.Helper()
	if !slices.Equal(got, want) {
		t.Errorf("%s: %v, not %v", what, got, want)
	}
}

func toTheEnd(s *state.State) api.Errno {
	for {
		if changed, e := dac.Once(s); !changed {
			return e
		}
	}
}

// both are the ways to the level.
var both = []func(*state.State) api.Errno{dac.Enforce, toTheEnd}

// enforced holds what is promised behind OK.
func enforced(t *testing.T, what string, s *state.State, enforce func(*state.State) api.Errno) {
	t.Helper()
	before := valsOf(s)
	is(t, what, enforce(s), api.OK)
	same(t, what+": the assignments", valsOf(s), before...)
	if level := check.Of(s); level < check.FDAC {
		t.Errorf("%s: of the level %d", what, level)
	}
	behind := s.Facts()
	is(t, what+", again", enforce(s), api.OK)
	same(t, what+", again", s.Facts(), behind...)
}

// What is told is the same by whatever moves, but for costs that values of one
// function's lower variable don't need.
func TestEnforce(t *testing.T) {
	for _, x := range []struct{ what, text, want string }{
		{"the chapter's example", "t 2 2 2 9 1 2, 1 1 0 1 0 2, 2 0 1 0 1 0 1 2", "2; 0:0; 0:0 1:0"},
		{"told falling", "t 2 2 2 9 1 2, 1 1 0 1 0 2, 2 1 0 0 1 1 0 2", "2; 0:0; 0:0 1:0"},
		{"nothing but the lower one's costs", "t 2 2 2 9 2 1, 1 0 0 1 0 2, 2 0 1 0 1 1 0 0", "0; 0:2 1:0; 0:0"},
		{"what is lacking of two", "t 2 2 2 9 1 2, 1 1 0 2 0 5 1 3, 2 0 1 0 1 0 0 1", "3; 0:0; 0:3 1:0"},
		{"of one value of several", "t 2 2 2 9 2 2, 1 1 0 1 0 3, 2 0 1 0 1 0 1 2", "0; 0:2 1:0; 0:1 1:0"},
		{"of several values", "t 2 2 2 9 2 2, 1 1 0 1 0 4, 2 0 1 0 2 0 1 3 1 1 2", "2; 0:1 1:0; 0:1 1:0"},
		{"nothing where both are 0", "t 2 2 2 9 2 2, 1 1 0 1 1 6, 2 0 1 0 1 0 1 3", "0; 0:0 1:0; 0:0 1:6"},
		{"a star", "t 4 2 6 20 2 2 2 2, 1 1 0 1 0 2, 2 0 1 0 1 0 1 3, 1 2 0 1 1 4, 2 0 2 0 1 0 0 1, 1 3 0 1 0 5, 2 0 3 0 1 0 1 5", "0; 0:8 1:0; 0:0 1:0; 0:0 1:3; 0:0 1:0"},
		{"a chain", "t 4 2 4 9 1 2 2 2, 1 3 0 1 0 3, 2 2 3 9 2 0 0 0 1 1 0, 2 1 2 9 2 0 0 0 1 1 0, 2 0 1 0 1 0 1 2", "2; 0:0; 0:1 1:0; 0:0 1:0; 0:0 1:0"},
		{"Zero and a unary cost are the top", "t 2 2 3 9 2 2, 0 7 0, 1 1 0 1 0 2, 2 0 1 0 1 0 1 4", "7; 1:0; 1:0"},
		{"one less", "t 2 2 3 9 2 2, 0 6 0, 1 1 0 1 0 2, 2 0 1 0 1 0 1 4", "6; 0:2 1:0; 0:0 1:0"},
		{"what it is lent is the top", "t 3 2 5 9 2 2 2, 0 5 0, 1 1 0 1 0 2, 2 0 1 0 1 0 1 4, 1 2 0 1 0 2, 2 0 2 0 1 0 1 4", "5; 1:0; 0:2 1:0; 0:2 1:0"},
		{"and one less", "t 3 2 5 9 2 2 2, 0 4 0, 1 1 0 1 0 2, 2 0 1 0 1 0 1 4, 1 2 0 1 0 2, 2 0 2 0 1 0 1 4", "4; 0:4 1:0; 0:0 1:0; 0:0 1:0"},
		{"a unary cost of the top", "t 2 2 2 9 1 2, 1 1 0 1 0 9, 2 0 1 0 1 0 1 4", "4; 0:0; 1:0"},
		{"tuples of the top", "t 2 3 2 9 2 3, 1 1 0 1 0 3, 2 0 1 9 3 0 0 0 1 1 0 1 2 0", "0; 0:3 1:0; 0:0 1:0 2:0"},
		{"a lowering makes others cost too much", "t 3 2 4 9 1 2 2, 1 1 0 1 0 2, 2 0 1 0 1 0 1 2, 1 2 0 1 0 7, 2 1 2 0 1 1 1 4", "2; 0:0; 0:0 1:4; 1:0"},
		{"one goes by what it is lent, and others lack its tuple", "t 4 2 6 9 2 2 2 2, 0 3 0, 1 1 0 1 0 3, 2 0 1 0 1 0 1 9, 1 2 0 1 0 3, 2 0 2 0 1 0 1 9, 2 0 3 0 1 1 0 4", "3; 1:0; 0:3 1:0; 0:3 1:0; 0:4 1:0"},
		{"one goes by what it is lent, and a lower one goes", "t 4 2 6 9 2 2 2 2, 0 3 0, 1 2 0 1 0 3, 2 1 2 0 1 0 1 9, 1 3 0 1 0 3, 2 1 3 0 1 0 1 9, 2 0 1 0 1 0 1 9", "3; 1:0; 1:0; 0:3 1:0; 0:3 1:0"},
		{"of three variables nothing is lent to", "t 3 2 2 9 2 1 2, 1 2 0 1 0 2, 3 0 1 2 0 1 0 0 1 2", "0; 0:0 1:0; 0:0; 0:2 1:0"},
		{"of three and of two", "t 3 2 3 9 2 1 2, 1 2 0 1 0 2, 3 0 1 2 0 1 0 0 1 2, 2 1 2 0 1 0 1 1", "1; 0:0 1:0; 0:0; 0:1 1:0"},
		{"K 1", "t 2 3 2 1 3 3, 1 1 0 1 2 1, 2 0 1 1 3 0 1 0 1 2 0 2 0 0", "0; 0:0 2:0; 0:0 1:0"},
		{"the greatest top", "t 2 2 2 2147483648 1 2, 1 1 0 1 0 2147483647, 2 0 1 0 1 0 1 2147483646", "2147483646; 0:0; 0:1 1:0"},
	} {
		for _, enforce := range both {
			s := made(t, x.text)
			enforced(t, x.what, s, enforce)
			shows(t, x.what, s, x.want)
		}
	}
}

// Just what is lacking is lent.
func TestCosts(t *testing.T) {
	for _, x := range []struct {
		what, text, want string
		costs            []int64
	}{
		{"of one value", "t 2 2 2 9 2 2, 1 1 0 1 0 5, 2 0 1 0 1 0 1 3", "0; 0:3 1:0; 0:2 1:0", []int64{0, 0, 3, 0}},
		{"of two values by one", "t 2 3 2 9 3 2, 1 1 0 1 0 7, 2 0 1 0 3 0 1 3 1 1 4 2 0 2", "0; 0:3 1:4 2:0; 0:3 1:0", []int64{1, 0, 0, 0, 6, 0}},
		{"of one value by two", "t 2 3 2 9 2 3, 1 1 0 2 0 4 1 3, 2 0 1 0 2 0 0 1 0 2 7", "0; 0:3 1:0; 0:2 1:0 2:0", []int64{0, 0, 4, 2, 3, 0}},
		{"beside the top", "t 2 3 2 9 3 2, 1 1 0 1 0 3, 2 0 1 0 3 0 1 9 1 0 9 2 0 7", "0; 0:3 1:0 2:0; 0:0 1:0", []int64{0, 9, 9, 0, 9, 0}},
	} {
		for _, enforce := range both {
			s := made(t, x.text)
			enforced(t, x.what, s, enforce)
			shows(t, x.what, s, x.want)
			same(t, x.what, costsOf(s, 0), x.costs...)
		}
	}
}

func wiped(s *state.State) bool {
	for i := range s.N() {
		if !s.Gone(i) && s.Dom(i).Len() == 0 {
			return true
		}
	}
	return false
}

func TestEmpty(t *testing.T) {
	for _, x := range []struct{ what, text string }{
		{"a lower one of which each value lacks", "t 2 2 3 9 1 2, 0 7 0, 1 1 0 1 0 2, 2 0 1 0 1 0 1 4"},
		{"it lacks of two", "t 3 2 4 9 1 2 2, 1 1 0 1 0 4, 2 0 1 0 1 0 1 4, 1 2 0 1 0 5, 2 0 2 0 1 0 1 5"},
		{"down a chain", "t 4 2 5 9 1 2 2 2, 0 6 0, 1 3 0 1 0 3, 2 2 3 9 2 0 0 0 1 1 0, 2 1 2 9 2 0 0 0 1 1 0, 2 0 1 0 1 0 1 3"},
		{"all tuples are the top", "t 2 2 1 5 2 2, 2 0 1 5 0"},
		{"a Zero that is the top", "t 2 2 2 9 2 2, 0 9 0, 2 0 1 0 0"},
		{"all unary costs are the top", "t 2 2 2 9 2 2, 1 1 9 0, 2 0 1 0 0"},
		{"one goes, and then all", "t 3 2 4 3 2 2 2, 2 0 1 0 2 0 0 3 0 1 3, 1 2 0 1 0 1, 2 0 2 0 1 1 1 1, 0 2 0"},
		{"K 1", "t 2 2 2 1 2 2, 1 1 0 1 0 1, 2 0 1 0 2 0 1 1 1 1 1"},
		{"the greatest top", "t 2 2 3 2147483648 1 2, 0 1 0, 1 1 0 1 0 2147483647, 2 0 1 0 1 0 1 2147483647"},
	} {
		for _, enforce := range both {
			s := made(t, x.text)
			if slices.Min(valsOf(s)) < s.K() {
				t.Fatalf("%s: an assignment costs less than the top", x.what)
			}
			is(t, x.what, enforce(s), api.ErrEmpty)
			if !wiped(s) {
				t.Errorf("%s: each variable has a value left: %s", x.what, shown(s))
			}
			behind := s.Facts()
			is(t, x.what+", again", enforce(s), api.ErrEmpty)
			same(t, x.what+", again", s.Facts(), behind...)
		}
	}
}

// Where a variable has no value ahead, all else stays as it is.
func TestEmptyAhead(t *testing.T) {
	s := made(t, "t 3 2 3 9 2 2 2, 2 0 1 3 0, 2 0 2 0 1 0 1 4, 1 2 0 1 0 2")
	ok(t, s.Drop(1, 0))
	ok(t, s.Drop(1, 1))
	behind := s.Facts()
	is(t, "Enforce", dac.Enforce(s), api.ErrEmpty)
	changed, e := dac.Once(s)
	if is(t, "Once", e, api.ErrEmpty); changed {
		t.Error("Once: true")
	}
	same(t, "what is told", s.Facts(), behind...)
	shows(t, "the variables", s, "0; 0:0 1:0;; 0:2 1:0")
	same(t, "a function of it", costsOf(s, 0), 3, 3, 3, 3)
	same(t, "another one", costsOf(s, 1), 0, 4, 0, 0)
}

// What the level doesn't ask for isn't done: the higher ones may lack of the lower ones.
func TestAlready(t *testing.T) {
	for _, text := range []string{
		"t 2 2 2 9 2 2, 1 0 0 1 1 5, 2 0 1 0 1 0 1 4",
		"t 3 2 3 9 2 1 2, 1 2 0 1 0 2, 3 0 1 2 0 1 0 0 1 2, 1 0 0 1 1 8",
		"t 3 2 4 9 2 2 2, 0 3 0, 1 1 0 1 1 5, 2 0 1 0 1 1 1 9, 2 1 2 0 1 1 1 4",
	} {
		s := made(t, text)
		before := s.Facts()
		is(t, "Enforce", dac.Enforce(s), api.OK)
		same(t, text, s.Facts(), before...)
		changed, e := dac.Once(s)
		if same(t, text, s.Facts(), before...); changed || e != api.OK {
			t.Errorf("%s: Once: %v, error %d", text, changed, e)
		}
	}
}

// What isn't live, what is gone, and what isn't left counts for nothing, and stays
// as it is.
func TestKilled(t *testing.T) {
	for _, enforce := range both {
		s := made(t, "t 3 2 4 9 2 2 2, 1 1 0 1 0 2, 2 0 1 0 1 0 1 4, 1 2 0 1 0 3, 2 0 2 0 1 0 1 4")
		m := s.Mark()
		ok(t, s.Kill(0))
		enforced(t, "one is killed", s, enforce)
		shows(t, "one is killed", s, "0; 0:3 1:0; 0:2 1:0; 0:0 1:0")
		ok(t, s.Undo(m))
		same(t, "undone", costsOf(s, 0), 0, 4, 0, 0)
		ok(t, s.Kill(0))
		ok(t, s.Kill(1))
		enforced(t, "both are killed", s, enforce)
		shows(t, "both are killed", s, "0; 0:0 1:0; 0:2 1:0; 0:3 1:0")
	}
}

func TestGone(t *testing.T) {
	for _, enforce := range both {
		s := made(t, "t 4 2 4 9 2 2 2 2, 1 3 0 1 0 2, 2 0 3 0 1 0 1 4, 1 1 4 0, 1 2 9 0")
		ok(t, s.Drop(1, 0))
		ok(t, s.Drop(1, 1))
		ok(t, s.Remove(state.Elim{Var: 1, Best: []int{0}}))
		ok(t, s.Remove(state.Elim{Var: 2, Best: []int{0}}))
		enforced(t, "Enforce", s, enforce)
		shows(t, "Enforce", s, "0; 0:2 1:0;; 0:9 1:9; 0:0 1:0")
	}
}

func TestDropped(t *testing.T) {
	for _, enforce := range both {
		s := made(t, "t 2 3 2 9 3 3, 1 1 0 1 0 5, 2 0 1 0 4 0 1 3 2 1 1 2 2 6 1 2 8")
		ok(t, s.Drop(1, 2))
		ok(t, s.Drop(0, 2))
		enforced(t, "Enforce", s, enforce)
		shows(t, "Enforce", s, "0; 0:3 1:0; 0:2 1:0")
		same(t, "the costs", costsOf(s, 0), 0, 0, 0, 3, 0, 8, 0, 1, 6)
		c, _ := s.Unary(1, 2)
		same(t, "what was dropped", []int64{c}, 0)
	}
}

// Each step changes something, but not what an assignment costs, till nothing is left to do.
func TestOnce(t *testing.T) {
	s := made(t, "t 3 2 6 20 2 2 2, 0 1 0, 1 2 0 2 0 7 1 2, 2 1 2 0 1 0 1 4, 2 0 1 1 2 0 0 0 1 0 0, 2 0 2 0 1 1 1 3, 1 0 1 1 1 3")
	first, vals, m := s.Facts(), valsOf(s), s.Mark()
	many := 0
	for {
		before := s.Facts()
		changed, e := dac.Once(s)
		same(t, "the assignments", valsOf(s), vals...)
		if e != api.OK || changed == slices.Equal(s.Facts(), before) {
			t.Fatalf("Once: %v, error %d: %s", changed, e, shown(s))
		}
		if !changed {
			break
		}
		if many++; many > 100 {
			t.Fatal("it doesn't come to its end")
		}
	}
	if level := check.Of(s); level < check.FDAC || many < 3 {
		t.Errorf("behind %d steps: of the level %d", many, level)
	}
	behind := s.Facts()
	is(t, "Enforce", dac.Enforce(s), api.OK)
	same(t, "Enforce", s.Facts(), behind...)
	ok(t, s.Undo(m))
	same(t, "undone", s.Facts(), first...)
}

// By one step all is given that is lacking, however many lend.
func TestSteps(t *testing.T) {
	s := made(t, "t 4 2 6 9 2 2 2 2, 0 3 0, 1 1 0 1 0 3, 2 0 1 0 1 0 1 9, 1 2 0 1 0 3, 2 0 2 0 1 0 1 9, 2 0 3 0 1 1 0 4")
	for _, want := range []string{
		"3; 0:6 1:0; 0:0 1:0; 0:0 1:0; 0:0 1:0",
		"3; 1:0; 0:0 1:0; 0:0 1:0; 0:0 1:0",
		"3; 1:0; 0:3 1:0; 0:3 1:0; 0:4 1:0",
	} {
		changed, e := dac.Once(s)
		if shows(t, "a step", s, want); !changed || e != api.OK {
			t.Errorf("Once: %v, error %d", changed, e)
		}
	}
	for range 2 {
		changed, e := dac.Once(s)
		if shows(t, "behind the last one", s, "3; 1:0; 0:3 1:0; 0:3 1:0; 0:4 1:0"); changed || e != api.OK {
			t.Errorf("Once: %v, error %d", changed, e)
		}
	}
}

func TestUndo(t *testing.T) {
	s := made(t, "t 3 2 5 20 2 2 2, 1 2 0 1 0 7, 2 1 2 0 1 0 1 4, 2 0 1 1 2 0 0 0 1 0 0, 2 0 2 0 1 1 1 3, 3 0 1 2 0 0")
	ahead := s.Facts()
	s.Mark()
	is(t, "Enforce", dac.Enforce(s), api.OK)
	behind := s.Facts()
	if slices.Equal(behind, ahead) {
		t.Error("there was nothing to do")
	}
	s.Mark()
	ok(t, s.SetUnary(0, 0, 20))
	ok(t, s.SetUnary(1, 0, 12))
	ok(t, s.SetCost(1, []int{1, 1}, 20))
	is(t, "Enforce", dac.Enforce(s), api.OK)
	s.Mark()
	ok(t, s.SetZero(20))
	is(t, "Enforce of what can't be", dac.Enforce(s), api.ErrEmpty)
	if s.Depth() != 3 {
		t.Errorf("%d marks are open", s.Depth())
	}
	ok(t, s.Undo(1))
	same(t, "to the second mark", s.Facts(), behind...)
	ok(t, s.Undo(0))
	same(t, "to the first mark", s.Facts(), ahead...)
}

func TestNil(t *testing.T) {
	is(t, "Enforce", dac.Enforce(nil), api.ErrNone)
	if changed, e := dac.Once(nil); changed || e != api.ErrNone {
		t.Errorf("Once: %v, error %d", changed, e)
	}
}
