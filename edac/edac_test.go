package edac_test

import (
	"fmt"
	"slices"
	"strings"
	"testing"

	"pennyweight/api"
	"pennyweight/check"
	"pennyweight/edac"
	"pennyweight/net"
	"pennyweight/state"
	"pennyweight/wcsp"
)

func made(t *testing.T, text string) *state.State {
	t.Helper()
	f, at, e := wcsp.Read([]byte(strings.ReplaceAll(text, ",", "")))
	if e != api.OK {
		t.Fatalf("Read(%.99q): place %d, error %d", text, at, e)
	}
	n, e := net.Of(f)
	if e != api.OK {
		t.Fatalf("Of(%.99q): error %d", text, e)
	}
	return state.New(n)
}

func ok(t *testing.T, e api.Errno) {
	t.Helper()
	if e != api.OK {
		t.Fatalf("error %d", e)
	}
}

func is(t *testing.T, what string, e, want api.Errno) {
	t.Helper()
	if e != want {
		t.Errorf("%s: error %d, not %d", what, e, want)
	}
}

// shown is Zero, and of each variable the values that are left, with their costs.
func shown(s *state.State) string {
	text := fmt.Sprint(s.Zero())
	for i := range s.N() {
		text += ";"
		for v := range s.Dom(i).Values() {
			c, _ := s.Unary(i, v)
			text += fmt.Sprintf(" %d:%d", v, c)
		}
	}
	return text
}

func shows(t *testing.T, what string, s *state.State, want string) {
	t.Helper()
	if got := shown(s); got != want {
		t.Errorf("%s: %s, not %s", what, got, want)
	}
}

// tuplesOf are all of these variables, in layer 3's order.
func tuplesOf(s *state.State, scope []int) [][]int {
	all := [][]int{nil}
	for _, i := range scope {
		var longer [][]int
		for _, x := range all {
			for v := range s.Net().Size(i) {
				longer = append(longer, append(slices.Clone(x), v))
			}
		}
		all = longer
	}
	return all
}

// costsOf are a function's, by the tuples' numbers.
func costsOf(s *state.State, j int) []int64 {
	var costs []int64
	for _, x := range tuplesOf(s, s.Scope(j)) {
		c, _ := s.Cost(j, x)
		costs = append(costs, c)
	}
	return costs
}

// valsOf are those of all assignments.
func valsOf(s *state.State) []int64 {
	var vars []int
	for i := range s.N() {
		vars = append(vars, i)
	}
	var vals []int64
	for _, a := range tuplesOf(s, vars) {
		c, _ := s.Val(a)
		vals = append(vals, c)
	}
	return vals
}

func same(t *testing.T, what string, got []int64, want ...int64) {
	t.Helper()
	if !slices.Equal(got, want) {
		t.Errorf("%s: %v, not %v", what, got, want)
	}
}

func toTheEnd(s *state.State) api.Errno {
	for {
		if changed, e := edac.Once(s); !changed {
			return e
		}
	}
}

// both are the ways to the level.
var both = []func(*state.State) api.Errno{edac.Enforce, toTheEnd}

// enforced holds what is promised behind OK.
func enforced(t *testing.T, what string, s *state.State, enforce func(*state.State) api.Errno) {
	t.Helper()
	before, zero, funs := valsOf(s), s.Zero(), s.Funs()
	is(t, what, enforce(s), api.OK)
	same(t, what+": the assignments", valsOf(s), before...)
	if s.Zero() < zero || s.Funs() != funs {
		t.Errorf("%s: Zero %d, %d functions, of %d and %d", what, s.Zero(), s.Funs(), zero, funs)
	}
	for level := check.NC; level <= check.EDAC; level++ {
		if of, e := check.Is(s, level); !of || e != api.OK {
			why, _ := check.Why(s, level)
			t.Errorf("%s: not of the level %d: %v", what, level, why)
		}
	}
	behind := s.Facts()
	is(t, what+", again", enforce(s), api.OK)
	same(t, what+", again", s.Facts(), behind...)
	if changed, e := edac.Once(s); changed || e != api.OK {
		t.Errorf("%s: Once behind it: %v, error %d", what, changed, e)
	}
}

// Of lower ones the first variable's values need nothing, so that FDAC doesn't ask
// for what their neighbour's values need of them.
func TestEnforce(t *testing.T) {
	for _, x := range []struct{ what, text, want string }{
		{"the chapter's example", "t 2 2 2 9 1 2, 1 1 0 1 0 2, 2 0 1 0 1 0 1 2", "2; 0:0; 0:0 1:0"},
		{"told falling", "t 2 2 2 9 1 2, 1 1 0 1 0 2, 2 1 0 0 1 1 0 2", "2; 0:0; 0:0 1:0"},
		{"lower ones", "t 3 2 4 20 2 2 2, 1 0 0 1 1 3, 2 0 2 0 1 0 0 5, 1 1 0 1 1 4, 2 1 2 0 1 0 1 6", "3; 0:1 1:0; 0:0 1:0; 0:0 1:0"},
		{"lower ones, told falling", "t 3 2 4 20 2 2 2, 1 0 0 1 1 3, 2 2 0 0 1 0 0 5, 1 1 0 1 1 4, 2 2 1 0 1 1 0 6", "3; 0:1 1:0; 0:0 1:0; 0:0 1:0"},
		{"higher ones", "t 3 2 4 20 2 2 2, 1 1 0 1 1 3, 2 0 1 0 1 0 0 5, 1 2 0 1 1 4, 2 0 2 0 1 1 0 6", "3; 0:0 1:1; 0:0 1:0; 0:0 1:0"},
		{"one of each", "t 3 2 4 20 2 2 2, 1 0 0 1 1 3, 2 0 1 0 1 0 0 5, 1 2 0 1 1 4, 2 1 2 0 1 1 0 6", "3; 0:1 1:0; 0:0 1:0; 0:0 1:0"},
		{"a lower one, and what a higher one lent", "t 3 2 4 20 2 2 2, 1 0 0 1 1 3, 2 0 1 0 1 0 0 5, 1 1 0 1 1 4, 2 1 2 0 1 0 1 6", "3; 0:1 1:0; 0:0 1:0; 0:0 1:0"},
		{"lower ones of three values", "t 4 3 6 30 2 2 2 3, 1 0 0 1 1 3, 2 0 3 0 1 0 0 9, 1 1 0 1 1 4, 2 1 3 0 1 0 1 9, 1 2 0 1 1 5, 2 2 3 0 1 0 2 9", "3; 0:1 1:0; 0:0 1:0; 0:0 1:1; 0:0 1:0 2:0"},
		{"lower ones whose sums are the least together", "t 4 2 6 9 2 2 2 2, 1 0 0 1 1 3, 2 0 3 0 1 0 0 5, 1 1 0 1 1 4, 2 1 3 0 1 0 0 6, 1 2 0 1 1 7, 2 2 3 0 1 0 1 7", "7; 0:0 1:0; 0:0 1:0; 0:0 1:0; 0:0 1:0"},
		{"a value of it that costs something itself", "t 3 3 5 20 2 2 3, 1 0 0 1 1 3, 2 0 2 0 1 0 0 5, 1 1 0 1 1 4, 2 1 2 0 1 0 1 6, 1 2 0 1 2 2", "2; 0:0 1:1; 0:0 1:2; 0:0 1:0 2:0"},
		{"a chain", "t 5 2 7 20 2 2 2 2 2, 1 0 0 1 1 8, 1 1 0 1 1 3, 2 0 3 0 1 0 1 9, 2 1 3 0 1 0 0 9, 2 0 4 0 1 0 0 9, 1 2 0 1 1 5, 2 2 4 0 1 0 1 9", "8; 0:0 1:0; 0:0 1:0; 0:0 1:0; 0:0 1:0; 0:0 1:0"},
		{"a ring", "t 3 2 5 9 2 2 2, 1 0 0 1 0 4, 2 0 1 0 1 0 0 1, 1 1 0 1 0 1, 2 1 2 0 2 0 1 4 1 0 2, 2 0 2 0 1 1 1 4", "1; 0:3 1:0; 0:0 1:0; 0:0 1:0"},
		{"sums that meet the top with Zero, but of one value", "t 4 2 7 9 2 2 2 2, 0 2 0, 1 0 0 1 1 3, 2 0 3 0 1 0 0 5, 1 1 0 1 1 4, 2 1 3 0 1 0 0 6, 1 2 0 1 1 6, 2 2 3 0 1 0 1 7", "8; 0:0; 0:0; 1:0; 1:0"},
		{"one less", "t 4 2 7 9 2 2 2 2, 0 1 0, 1 0 0 1 1 3, 2 0 3 0 1 0 0 5, 1 1 0 1 1 4, 2 1 3 0 1 0 0 6, 1 2 0 1 1 7, 2 2 3 0 1 0 1 7", "8; 0:0 1:0; 0:0 1:0; 0:0 1:0; 0:0 1:0"},
		{"tuples of the top", "t 3 2 4 9 2 2 2, 1 0 0 1 1 3, 2 0 2 0 1 0 0 9, 1 1 0 1 1 4, 2 1 2 0 1 0 1 9", "3; 0:1 1:0; 0:0 1:0; 0:0 1:0"},
		{"a unary cost of the top", "t 3 3 4 9 3 2 2, 1 0 0 2 1 3 2 9, 2 0 2 0 1 0 0 9, 1 1 0 1 1 4, 2 1 2 0 1 0 1 9", "3; 0:1 1:0; 0:0 1:0; 0:0 1:0"},
		{"Zero makes others cost too much", "t 4 2 5 20 2 2 2 2, 1 0 0 1 1 3, 2 0 2 0 1 0 0 5, 1 1 0 1 1 4, 2 1 2 0 1 0 1 6, 1 3 0 1 1 17", "3; 0:1 1:0; 0:0 1:0; 0:0 1:0; 0:0"},
		{"and one less", "t 4 2 5 20 2 2 2 2, 1 0 0 1 1 3, 2 0 2 0 1 0 0 5, 1 1 0 1 1 4, 2 1 2 0 1 0 1 6, 1 3 0 1 1 16", "3; 0:1 1:0; 0:0 1:0; 0:0 1:0; 0:0 1:16"},
		{"and others lack its tuple", "t 5 2 6 20 2 2 2 2 2, 1 0 0 1 1 3, 2 0 2 0 1 0 0 5, 1 1 0 1 1 4, 2 1 2 0 1 0 1 6, 1 3 0 1 1 17, 2 3 4 0 2 0 0 2 1 1 8", "3; 0:1 1:0; 0:0 1:0; 0:0 1:0; 0:0; 0:2 1:0"},
		{"of three variables nothing is asked of neighbours", "t 4 2 4 20 2 2 2 2, 1 0 0 1 1 3, 3 0 1 3 0 2 0 0 0 5 0 1 0 5, 1 2 0 1 1 4, 2 2 3 0 1 0 1 6", "0; 0:0 1:3; 0:0 1:0; 0:0 1:4; 0:0 1:0"},
		{"of three and of two", "t 4 2 5 20 2 2 2 2, 1 0 0 1 1 3, 3 0 1 3 0 2 0 0 0 5 0 1 0 5, 1 2 0 1 1 4, 2 2 3 0 1 0 1 6, 2 0 3 0 1 0 0 5", "3; 0:1 1:0; 0:0 1:0; 0:0 1:0; 0:0 1:0"},
		{"K 1", "t 3 2 3 1 2 2 2, 1 0 0 1 1 1, 2 0 2 0 1 0 0 1, 2 1 2 0 1 0 1 1", "0; 0:0; 1:0; 1:0"},
		{"the greatest top", "t 3 2 4 2147483648 2 2 2, 1 0 0 1 1 2147483647, 2 0 2 0 1 0 0 2147483648, 1 1 0 1 1 2147483646, 2 1 2 0 1 0 1 2147483648", "2147483646; 0:0 1:1; 0:0 1:0; 0:0 1:0"},
	} {
		for _, enforce := range both {
			s := made(t, x.text)
			enforced(t, x.what, s, enforce)
			shows(t, x.what, s, x.want)
		}
	}
}

// Just what is lacking is lent, to the lower ones and to the higher ones.
func TestCosts(t *testing.T) {
	for _, enforce := range both {
		s := made(t, "t 3 2 4 20 2 2 2, 1 0 0 1 1 3, 2 0 2 0 1 0 0 5, 1 1 0 1 1 4, 2 1 2 0 1 0 1 6")
		enforced(t, "lower ones", s, enforce)
		same(t, "the first one's", costsOf(s, 0), 1, 0, 0, 4)
		same(t, "the second one's", costsOf(s, 1), 0, 2, 4, 0)
	}
}

// A value that is free in each function of it alone is not, where another one has
// no part in it.
func TestBeyond(t *testing.T) {
	for _, x := range []struct {
		what, text string
		of         int
	}{
		{"two lower ones", "t 3 2 4 20 2 2 2, 1 0 0 1 1 3, 2 0 2 0 1 0 0 5, 1 1 0 1 1 4, 2 1 2 0 1 0 1 6", check.FDAC},
		{"two lower ones with one value", "t 3 2 4 20 2 2 2, 1 0 0 1 1 3, 2 0 2 0 1 0 0 5, 1 1 0 1 1 4, 2 1 2 0 1 0 0 6", check.EDAC},
		{"one lower one", "t 3 2 3 20 2 2 2, 1 0 0 1 1 3, 2 0 2 0 1 0 0 5, 2 1 2 0 1 0 1 6", check.EDAC},
		{"two lower ones, and its own costs", "t 3 3 5 20 2 2 3, 1 0 0 1 1 3, 2 0 2 0 1 0 0 5, 1 1 0 1 1 4, 2 1 2 0 1 0 1 6, 1 2 0 1 2 2", check.FDAC},
		{"a ring", "t 3 2 5 9 2 2 2, 1 0 0 1 0 4, 2 0 1 0 1 0 0 1, 1 1 0 1 0 1, 2 1 2 0 2 0 1 4 1 0 2, 2 0 2 0 1 1 1 4", check.FDAC},
	} {
		for _, enforce := range both {
			s := made(t, x.text)
			if level := check.Of(s); level != x.of {
				t.Errorf("%s: of the level %d, not %d", x.what, level, x.of)
			}
			ahead, zero := s.Facts(), s.Zero()
			enforced(t, x.what, s, enforce)
			if already := x.of == check.EDAC; slices.Equal(s.Facts(), ahead) != already || (s.Zero() == zero) != already {
				t.Errorf("%s: %s", x.what, shown(s))
			}
		}
	}
}

func wiped(s *state.State) bool {
	for i := range s.N() {
		if !s.Gone(i) && s.Dom(i).Len() == 0 {
			return true
		}
	}
	return false
}

func TestEmpty(t *testing.T) {
	for _, x := range []struct{ what, text string }{
		{"sums that meet the top with Zero", "t 4 2 8 9 2 2 2 2, 0 2 0, 1 0 0 1 1 3, 2 0 3 0 1 0 0 5, 1 1 0 1 1 4, 2 1 3 0 1 0 0 6, 1 2 0 1 1 6, 2 2 3 0 1 0 1 7, 1 3 0 1 1 1"},
		{"more than the top", "t 4 2 8 9 2 2 2 2, 0 2 0, 1 0 0 1 1 6, 2 0 3 0 1 0 0 9, 1 1 0 1 1 6, 2 1 3 0 1 0 0 9, 1 2 0 1 1 6, 2 2 3 0 1 0 1 9, 1 3 0 1 1 6"},
		{"a chain", "t 5 2 8 9 2 2 2 2 2, 0 1 0, 1 0 0 1 1 8, 1 1 0 1 1 3, 2 0 3 0 1 0 1 9, 2 1 3 0 1 0 0 9, 2 0 4 0 1 0 0 9, 1 2 0 1 1 5, 2 2 4 0 1 0 1 9"},
		{"the greatest top", "t 4 2 8 2147483648 2 2 2 2, 0 2 0, 1 0 0 1 1 2147483645, 2 0 3 0 1 0 0 2147483648, 1 1 0 1 1 1, 2 1 3 0 1 0 0 5, 1 2 0 1 1 2147483645, 2 2 3 0 1 0 1 2147483648, 1 3 0 1 1 1"},
		{"by one function alone", "t 3 2 4 9 2 2 2, 1 0 0 1 1 4, 2 0 2 9 1 1 1 5, 1 1 0 1 1 3, 2 1 2 0 1 0 1 6"},
		{"all tuples are the top", "t 2 2 1 5 2 2, 2 0 1 5 0"},
		{"a Zero that is the top", "t 3 2 5 20 2 2 2, 0 20 0, 1 0 0 1 1 3, 2 0 2 0 1 0 0 5, 1 1 0 1 1 4, 2 1 2 0 1 0 1 6"},
		{"all unary costs are the top", "t 2 2 2 9 2 2, 1 1 9 0, 2 0 1 0 0"},
		{"one goes, and then all", "t 4 2 6 20 2 2 2 2, 1 0 0 1 1 3, 2 0 2 0 1 0 0 5, 1 1 0 1 1 4, 2 1 2 0 1 0 1 6, 1 3 0 1 1 17, 2 2 3 0 2 0 0 20 1 0 20"},
		{"K 1", "t 3 2 4 1 2 2 2, 1 0 0 1 1 1, 2 0 2 0 1 0 0 1, 1 1 0 1 1 1, 2 1 2 0 1 0 1 1"},
	} {
		for _, enforce := range both {
			s := made(t, x.text)
			if slices.Min(valsOf(s)) < s.K() {
				t.Fatalf("%s: an assignment costs less than the top", x.what)
			}
			is(t, x.what, enforce(s), api.ErrEmpty)
			if !wiped(s) {
				t.Errorf("%s: each variable has a value left: %s", x.what, shown(s))
			}
			behind := s.Facts()
			is(t, x.what+", again", enforce(s), api.ErrEmpty)
			same(t, x.what+", again", s.Facts(), behind...)
		}
	}
}

// Where a variable has no value ahead, all else stays as it is.
func TestEmptyAhead(t *testing.T) {
	s := made(t, "t 4 2 5 20 2 2 2 2, 1 0 0 1 1 3, 2 0 2 0 1 0 0 5, 1 1 0 1 1 4, 2 1 2 0 1 0 1 6, 2 2 3 3 0")
	ok(t, s.Drop(3, 0))
	ok(t, s.Drop(3, 1))
	behind := s.Facts()
	is(t, "Enforce", edac.Enforce(s), api.ErrEmpty)
	changed, e := edac.Once(s)
	if is(t, "Once", e, api.ErrEmpty); changed {
		t.Error("Once: true")
	}
	same(t, "what is told", s.Facts(), behind...)
	shows(t, "the variables", s, "0; 0:0 1:3; 0:0 1:4; 0:0 1:0;")
	same(t, "a function of it", costsOf(s, 2), 3, 3, 3, 3)
	same(t, "another one", costsOf(s, 0), 5, 0, 0, 0)
}

// What the level doesn't ask for isn't done: a value that isn't the free one may
// lack of the lower ones.
func TestAlready(t *testing.T) {
	for _, text := range []string{
		"t 2 2 2 9 2 2, 1 0 0 1 1 5, 2 0 1 0 1 0 1 4",
		"t 3 2 4 20 2 2 2, 1 0 0 1 1 3, 2 0 2 0 1 0 0 5, 1 1 0 1 1 4, 2 1 2 0 1 0 0 6",
		"t 3 3 6 20 2 2 3, 0 3 0, 1 0 0 1 1 3, 2 0 2 0 1 0 0 5, 1 1 0 1 1 4, 2 1 2 0 1 0 1 6, 1 2 0 1 0 16",
		"t 4 2 4 20 2 2 2 2, 1 0 0 1 1 3, 3 0 1 3 0 2 0 0 0 5 0 1 0 5, 1 2 0 1 1 4, 2 2 3 0 1 0 1 6",
	} {
		s := made(t, text)
		if level := check.Of(s); level != check.EDAC {
			t.Errorf("%s: of the level %d", text, level)
		}
		before := s.Facts()
		is(t, "Enforce", edac.Enforce(s), api.OK)
		same(t, text, s.Facts(), before...)
		changed, e := edac.Once(s)
		if same(t, text, s.Facts(), before...); changed || e != api.OK {
			t.Errorf("%s: Once: %v, error %d", text, changed, e)
		}
	}
}

// Of the other order of the variables it would not be of the level.
func TestOrder(t *testing.T) {
	for _, enforce := range both {
		s := made(t, "t 2 2 2 9 2 2, 1 0 0 1 1 5, 2 0 1 0 1 0 1 4")
		enforced(t, "Enforce", s, enforce)
		shows(t, "Enforce", s, "0; 0:0 1:5; 0:0 1:0")
		s = made(t, "t 2 2 2 9 2 2, 1 1 0 1 1 5, 2 0 1 0 1 1 0 4")
		enforced(t, "of the other order", s, enforce)
		shows(t, "of the other order", s, "0; 0:0 1:4; 0:0 1:1")
	}
}

// What isn't live, what is gone, and what isn't left counts for nothing, and stays
// as it is.
func TestKilled(t *testing.T) {
	for _, enforce := range both {
		s := made(t, "t 3 2 4 20 2 2 2, 1 0 0 1 1 3, 2 0 2 0 1 0 0 5, 1 1 0 1 1 4, 2 1 2 0 1 0 1 6")
		m := s.Mark()
		ok(t, s.Kill(1))
		enforced(t, "one is killed", s, enforce)
		shows(t, "one is killed", s, "0; 0:0 1:3; 0:0 1:4; 0:0 1:0")
		ok(t, s.Undo(m))
		same(t, "undone", costsOf(s, 1), 0, 6, 0, 0)
		ok(t, s.Kill(0))
		ok(t, s.Kill(1))
		enforced(t, "both are killed", s, enforce)
		shows(t, "both are killed", s, "0; 0:0 1:3; 0:0 1:4; 0:0 1:0")
	}
}

func TestGone(t *testing.T) {
	for _, enforce := range both {
		s := made(t, "t 5 2 6 20 2 2 2 2 2, 1 0 0 1 1 3, 2 0 4 0 1 0 0 5, 1 2 0 1 1 4, 2 2 4 0 1 0 1 6, 1 1 4 0, 1 3 19 0")
		ok(t, s.Drop(1, 0))
		ok(t, s.Drop(1, 1))
		ok(t, s.Remove(state.Elim{Var: 1, Best: []int{0}}))
		ok(t, s.Remove(state.Elim{Var: 3, Best: []int{0}}))
		enforced(t, "Enforce", s, enforce)
		shows(t, "Enforce", s, "3; 0:1 1:0;; 0:0 1:0; 0:19 1:19; 0:0 1:0")
	}
}

func TestDropped(t *testing.T) {
	for _, enforce := range both {
		s := made(t, "t 3 3 5 20 3 2 3, 1 0 0 2 1 3 2 9, 2 0 2 0 3 0 0 5 2 1 7 1 2 8, 1 1 0 1 1 4, 2 1 2 0 1 0 1 6, 1 2 0 1 2 1")
		ok(t, s.Drop(0, 2))
		ok(t, s.Drop(2, 2))
		enforced(t, "Enforce", s, enforce)
		shows(t, "Enforce", s, "3; 0:1 1:0; 0:0 1:0; 0:0 1:0")
		same(t, "the costs", costsOf(s, 0), 1, 0, 0, 0, 4, 8, 0, 7, 0)
		c, _ := s.Unary(0, 2)
		d, _ := s.Unary(2, 2)
		same(t, "what was dropped", []int64{c, d}, 9, 1)
	}
}

// Each step changes something, but not what an assignment costs, till nothing is left to do.
func TestOnce(t *testing.T) {
	s := made(t, "t 5 2 8 20 2 2 2 2 2, 0 1 0, 1 0 0 1 1 8, 1 1 0 1 1 3, 2 0 3 0 1 0 1 9, 2 1 3 0 1 0 0 9, 2 0 4 0 1 0 0 9, 1 2 0 1 1 5, 2 2 4 0 1 0 1 9")
	first, vals, m := s.Facts(), valsOf(s), s.Mark()
	many := 0
	for {
		before := s.Facts()
		changed, e := edac.Once(s)
		same(t, "the assignments", valsOf(s), vals...)
		if e != api.OK || changed == slices.Equal(s.Facts(), before) {
			t.Fatalf("Once: %v, error %d: %s", changed, e, shown(s))
		}
		if !changed {
			break
		}
		if many++; many > 100 {
			t.Fatal("it doesn't come to its end")
		}
	}
	if level := check.Of(s); level != check.EDAC || s.Zero() != 9 || many < 4 {
		t.Errorf("behind %d steps: of the level %d: %s", many, level, shown(s))
	}
	behind := s.Facts()
	is(t, "Enforce", edac.Enforce(s), api.OK)
	same(t, "Enforce", s.Facts(), behind...)
	ok(t, s.Undo(m))
	same(t, "undone", s.Facts(), first...)
}

// By one step all goes to one variable that its values lack of its neighbours,
// however many lend.
func TestSteps(t *testing.T) {
	s := made(t, "t 4 2 5 20 2 2 2 2, 1 0 0 1 1 3, 2 0 2 0 1 0 0 5, 1 1 0 1 1 4, 2 1 2 0 1 0 1 6, 1 3 0 1 1 17")
	for _, want := range []string{
		"0; 0:0 1:0; 0:0 1:0; 0:3 1:4; 0:0 1:17",
		"3; 0:0 1:0; 0:0 1:0; 0:0 1:1; 0:0 1:17",
		"3; 0:0 1:0; 0:0 1:0; 0:0 1:1; 0:0",
		"3; 0:1 1:0; 0:0 1:0; 0:0 1:0; 0:0",
	} {
		changed, e := edac.Once(s)
		if shows(t, "a step", s, want); !changed || e != api.OK {
			t.Errorf("Once: %v, error %d", changed, e)
		}
	}
	for range 2 {
		changed, e := edac.Once(s)
		if shows(t, "behind the last one", s, "3; 0:1 1:0; 0:0 1:0; 0:0 1:0; 0:0"); changed || e != api.OK {
			t.Errorf("Once: %v, error %d", changed, e)
		}
	}
}

func TestUndo(t *testing.T) {
	s := made(t, "t 4 2 6 20 2 2 2 2, 1 0 0 1 1 3, 2 0 2 0 1 0 0 5, 1 1 0 1 1 4, 2 1 2 0 1 0 1 6, 1 3 0 1 1 17, 3 0 1 3 0 0")
	ahead := s.Facts()
	s.Mark()
	is(t, "Enforce", edac.Enforce(s), api.OK)
	behind := s.Facts()
	if slices.Equal(behind, ahead) {
		t.Error("there was nothing to do")
	}
	s.Mark()
	ok(t, s.SetUnary(0, 0, 20))
	ok(t, s.SetUnary(1, 0, 12))
	ok(t, s.SetCost(1, []int{1, 1}, 20))
	is(t, "Enforce", edac.Enforce(s), api.OK)
	s.Mark()
	ok(t, s.SetZero(20))
	is(t, "Enforce of what can't be", edac.Enforce(s), api.ErrEmpty)
	if s.Depth() != 3 {
		t.Errorf("%d marks are open", s.Depth())
	}
	ok(t, s.Undo(1))
	same(t, "to the second mark", s.Facts(), behind...)
	ok(t, s.Undo(0))
	same(t, "to the first mark", s.Facts(), ahead...)
}

func TestNil(t *testing.T) {
	is(t, "Enforce", edac.Enforce(nil), api.ErrNone)
	if changed, e := edac.Once(nil); changed || e != api.ErrNone {
		t.Errorf("Once: %v, error %d", changed, e)
	}
}
