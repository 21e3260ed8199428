package state_test

import (
	"math"
	"reflect"
	"slices"
	"strings"
	"testing"

	"pennyweight/api"
	"pennyweight/dom"
	"pennyweight/net"
	"pennyweight/state"
	"pennyweight/table"
	"pennyweight/wcsp"
)

const top = int64(api.MaxCost)

// three has variables of 2, 3 and 2 values, costs of each kind, and K 9.
const three = "t 3 3 5 9 2 3 2, 0 1 0, 1 1 0 2 1 3 2 9, 1 2 4 0, 2 0 1 0 2 0 1 5 1 2 9, 3 0 1 2 1 1 1 2 0 6"

// told is all that a state tells.
type told struct {
	k      int64
	n      int
	zero   int64
	doms   []dom.Set
	gone   []bool
	unary  [][]int64
	live   []bool
	scopes [][]int
	costs  [][]int64
	near   [][]int
	find   []int
	elims  []state.Elim
	depth  int
	facts  []int64
	vals   []int64
}

func made(t *testing.T, text string) *state.State {
	t.Helper()
	f, at, e := wcsp.Read([]byte(strings.ReplaceAll(text, ",", "")))
	if e != api.OK {
		t.Fatalf("Read(%.99q): place %d, error %d", text, at, e)
	}
	n, e := net.Of(f)
	if e != api.OK {
		t.Fatalf("Of(%.99q): error %d", text, e)
	}
	s := state.New(n)
	if s == nil || s.Net() != n {
		t.Fatalf("New(%.99q): %v", text, s)
	}
	return s
}

func fill(t *testing.T, k, c int64, sizes ...int) *table.Table {
	t.Helper()
	x, e := table.New(sizes, k, c)
	if e != api.OK {
		t.Fatalf("New(%v, %d, %d): error %d", sizes, k, c, e)
	}
	return x
}

// tuplesOf are more than a shape could have: those of all variables, too.
func tuplesOf(s *state.State, scope []int) [][]int {
	if len(scope) == 0 {
		return [][]int{{}}
	}
	var all [][]int
	for v := range s.Net().Size(scope[0]) {
		for _, rest := range tuplesOf(s, scope[1:]) {
			all = append(all, append([]int{v}, rest...))
		}
	}
	return all
}

// look asks a state for all, of networks that are small enough for it.
func look(t *testing.T, s *state.State) told {
	t.Helper()
	l := told{k: s.K(), n: s.N(), zero: s.Zero(), elims: s.Elims(), depth: s.Depth(), facts: s.Facts()}
	var vars []int
	for i := range s.N() {
		vars = append(vars, i)
		l.doms, l.gone, l.near = append(l.doms, s.Dom(i)), append(l.gone, s.Gone(i)), append(l.near, s.Near(i))
		var costs []int64
		for v := range s.Net().Size(i) {
			costs = append(costs, unary(t, s, i, v))
		}
		l.unary = append(l.unary, costs)
	}
	for j := range s.Funs() {
		scope, live := s.Scope(j), s.Live(j)
		l.live, l.scopes, l.find = append(l.live, live), append(l.scopes, scope), append(l.find, s.Find(scope))
		var costs []int64
		for _, tuple := range tuplesOf(s, scope) {
			c, e := s.Cost(j, tuple)
			if live != (e == api.OK) || !live && (c != 0 || e != api.ErrArg) {
				t.Fatalf("Cost(%d, %v) = %d, error %d", j, tuple, c, e)
			}
			costs = append(costs, c)
		}
		l.costs = append(l.costs, costs)
	}
	for _, a := range tuplesOf(s, vars) {
		l.vals = append(l.vals, val(t, s, a...))
	}
	return l
}

func alike(t *testing.T, what string, got, want told) {
	t.Helper()
	if !reflect.DeepEqual(got, want) {
		t.Fatalf("%s: told is\n%v, not\n%v", what, got, want)
	}
}

func unary(t *testing.T, s *state.State, i, v int) int64 {
	t.Helper()
	c, e := s.Unary(i, v)
	if e != api.OK {
		t.Fatalf("Unary(%d, %d): error %d", i, v, e)
	}
	return c
}

func costOf(t *testing.T, s *state.State, j int, tuple ...int) int64 {
	t.Helper()
	c, e := s.Cost(j, tuple)
	if e != api.OK {
		t.Fatalf("Cost(%d, %v): error %d", j, tuple, e)
	}
	return c
}

func val(t *testing.T, s *state.State, a ...int) int64 {
	t.Helper()
	c, e := s.Val(a)
	if e != api.OK {
		t.Fatalf("Val(%v): error %d", a, e)
	}
	return c
}

func ok(t *testing.T, e api.Errno) {
	t.Helper()
	if e != api.OK {
		t.Fatalf("error %d", e)
	}
}

func mark(t *testing.T, s *state.State) {
	t.Helper()
	d := s.Depth()
	if m := s.Mark(); m != d || s.Depth() != d+1 {
		t.Fatalf("Mark with %d open: %d, then %d are", d, m, s.Depth())
	}
}

func add(t *testing.T, s *state.State, x *table.Table, scope ...int) int {
	t.Helper()
	n := s.Funs()
	j, e := s.Add(scope, x)
	if j != n || e != api.OK || s.Funs() != n+1 || !s.Live(j) || !slices.Equal(s.Scope(j), scope) {
		t.Fatalf("Add(%v) with %d functions: %d, error %d; then there are %d, it is live: %v, of %v", scope, n, j, e, s.Funs(), s.Live(j), s.Scope(j))
	}
	return j
}

func values(s *state.State, i int) []int { return slices.Collect(s.Dom(i).Values()) }

// refused are calls that are to answer that error, and to change nothing.
func refused(t *testing.T, s *state.State, want api.Errno, calls map[string]func() api.Errno) {
	t.Helper()
	before := look(t, s)
	for what, call := range calls {
		if e := call(); e != want {
			t.Errorf("%s: error %d, not %d", what, e, want)
		}
		alike(t, what, look(t, s), before)
	}
}

func full(t *testing.T, n int) dom.Set {
	t.Helper()
	d, e := dom.New(n)
	ok(t, e)
	return d
}

func TestExample(t *testing.T) {
	s := made(t, "t 2 2 1 9 2 2, 2 0 1 0 1, 1 1 5")
	ok(t, s.Drop(1, 1))
	if val(t, s, 1, 1) != 9 || val(t, s, 1, 0) != 0 || val(t, s, 0, 1) != 9 || val(t, s, 0, 0) != 0 {
		t.Errorf("%v", look(t, s))
	}
}

func TestNewState(t *testing.T) {
	s := made(t, three)
	want := told{
		k: 9, n: 3, zero: 1,
		doms:   []dom.Set{full(t, 2), full(t, 3), full(t, 2)},
		gone:   []bool{false, false, false},
		unary:  [][]int64{{0, 0}, {0, 3, 9}, {4, 4}},
		live:   []bool{true, true},
		scopes: [][]int{{0, 1}, {0, 1, 2}},
		costs:  [][]int64{{0, 5, 0, 0, 0, 9}, {1, 1, 1, 1, 1, 1, 1, 1, 1, 1, 6, 1}},
		near:   [][]int{{0, 1}, {0, 1}, {1}},
		find:   []int{0, 1},
		facts:  s.Facts(),
		vals:   []int64{6, 6, 9, 9, 9, 9, 6, 6, 9, 9, 9, 9},
	}
	alike(t, "a new state", look(t, s), want)
}

// A new state is held against its network, of whatever kind.
func TestNewStateBesideItsNetwork(t *testing.T) {
	for _, text := range []string{
		three,
		"?!~ 1 32 0 2147483648 32",
		"t 1 1 1 1 1, 0 1 0",
		"t 2 1 1 1 1 1, 2 1 0 1 0",
		"t 3 2 4 2147483648 2 1 2, 0 2147483648 0, 1 2 2147483648 1 0 5, 2 2 0 2147483647 1 1 1 0, 2 1 2 0 1 0 1 2147483648",
		"t 6 4 1 9 4 4 4 4 4 4, 6 5 4 3 2 1 0 2 2 0 1 2 3 0 1 7 3 3 3 3 3 3 0",
	} {
		s := made(t, text)
		n := s.Net()
		if s.K() != n.K() || s.N() != n.N() || s.Zero() != n.Zero() || s.Funs() != n.Funs() || len(s.Elims()) != 0 || s.Depth() != 0 {
			t.Errorf("%s: %d, %d, %d, %d, %v, %d", text, s.K(), s.N(), s.Zero(), s.Funs(), s.Elims(), s.Depth())
		}
		var vars []int
		for i := range n.N() {
			vars = append(vars, i)
			var costs []int64
			for v := range n.Size(i) {
				costs = append(costs, unary(t, s, i, v))
			}
			if s.Dom(i) != full(t, n.Size(i)) || s.Gone(i) || !slices.Equal(costs, n.Unary(i)) || !slices.Equal(s.Near(i), n.Near(i)) {
				t.Errorf("%s: variable %d: %v, %v, %v, %v", text, i, s.Dom(i), s.Gone(i), costs, s.Near(i))
			}
		}
		for j := range n.Funs() {
			if !s.Live(j) || !slices.Equal(s.Scope(j), n.Scope(j)) || s.Find(n.Scope(j)) != j {
				t.Errorf("%s: function %d: %v, %v, %d", text, j, s.Live(j), s.Scope(j), s.Find(n.Scope(j)))
			}
			for at, tuple := range n.Table(j).Shape().All() {
				if c := costOf(t, s, j, tuple...); c != n.Table(j).Entries()[at] {
					t.Errorf("%s: Cost(%d, %v) = %d", text, j, tuple, c)
				}
			}
		}
		for _, a := range tuplesOf(s, vars) {
			if want, _ := n.Val(a); val(t, s, a...) != want {
				t.Errorf("%s: Val(%v) = %d, not %d", text, a, val(t, s, a...), want)
			}
		}
	}
}

func TestStatesOfOneNetwork(t *testing.T) {
	s := made(t, three)
	x, before := state.New(s.Net()), look(t, s)
	ok(t, x.SetZero(5))
	ok(t, x.SetUnary(0, 1, 6))
	ok(t, x.SetCost(1, []int{0, 0, 0}, 7))
	ok(t, x.Drop(1, 1))
	ok(t, x.Kill(0))
	x.Mark()
	alike(t, "another one was changed", look(t, s), before)
	alike(t, "a later one", look(t, state.New(s.Net())), before)
	if n := s.Net(); n.Zero() != 1 || !slices.Equal(n.Unary(0), []int64{0, 0}) || n.Funs() != 2 {
		t.Errorf("the network has changed: %v", n)
	}
}

func TestNumbersThatThereAreNot(t *testing.T) {
	s := made(t, three)
	for _, i := range []int{-1, 3, 4, 64, math.MaxInt, math.MinInt} {
		if s.Dom(i) != (dom.Set{}) || s.Gone(i) || len(s.Near(i)) != 0 {
			t.Errorf("variable %d: %v, %v, %v", i, s.Dom(i), s.Gone(i), s.Near(i))
		}
		if c, e := s.Unary(i, 0); c != 0 || e != api.ErrArg {
			t.Errorf("Unary(%d, 0): %d, error %d", i, c, e)
		}
	}
	for _, x := range [][2]int{{0, 2}, {0, -1}, {1, 3}, {1, math.MaxInt}, {2, math.MinInt}, {2, 32}} {
		if c, e := s.Unary(x[0], x[1]); c != 0 || e != api.ErrArg {
			t.Errorf("Unary%v: %d, error %d", x, c, e)
		}
	}
	for _, j := range []int{-1, 2, 3, 256, math.MaxInt, math.MinInt} {
		if s.Live(j) || len(s.Scope(j)) != 0 {
			t.Errorf("function %d: %v, %v", j, s.Live(j), s.Scope(j))
		}
		if c, e := s.Cost(j, []int{0, 0}); c != 0 || e != api.ErrArg {
			t.Errorf("Cost(%d): %d, error %d", j, c, e)
		}
	}
	for _, l := range [][]int{nil, {0}, {0, 0, 0}, {2, 0}, {0, 3}, {-1, 0}, {0, math.MaxInt}, {math.MinInt, 0}} {
		if c, e := s.Cost(0, l); c != 0 || e != api.ErrArg {
			t.Errorf("Cost(0, %v): %d, error %d", l, c, e)
		}
	}
	for _, l := range [][]int{nil, {}, {0}, {0, 2}, {1, 0}, {0, 1, 2, 3}, {0, 1, 1}, {-1}, {2, 1, 0}} {
		if j := s.Find(l); j != -1 {
			t.Errorf("Find(%v) = %d", l, j)
		}
	}
}

func TestVal(t *testing.T) {
	s := made(t, three)
	for _, l := range [][]int{nil, {0, 0}, {0, 0, 0, 0}, {2, 0, 0}, {0, 3, 0}, {0, 0, 2}, {-1, 0, 0}, {0, 0, math.MaxInt}, {0, math.MinInt, 0}} {
		if c, e := s.Val(l); c != 0 || e != api.ErrRange {
			t.Errorf("Val(%v) = %d, error %d", l, c, e)
		}
	}
	ok(t, s.SetUnary(1, 2, 0))
	if val(t, s, 0, 2, 0) != 1+0+4+0+1 || val(t, s, 1, 2, 0) != 9 || val(t, s, 1, 1, 0) != 9 {
		t.Errorf("%v", look(t, s))
	}
	ok(t, s.Drop(0, 0))
	for _, a := range [][]int{{0, 0, 0}, {0, 2, 1}} {
		if c := val(t, s, a...); c != 9 {
			t.Errorf("Val(%v) = %d", a, c)
		}
	}
	if val(t, s, 1, 0, 0) != 6 {
		t.Errorf("%v", look(t, s))
	}
	// What isn't there is told ahead of what isn't left.
	for _, l := range [][]int{{0, 3, 0}, {0, 0, -1}, {0, 0}, {0, 0, 0, 0}} {
		if c, e := s.Val(l); c != 0 || e != api.ErrRange {
			t.Errorf("Val(%v) = %d, error %d", l, c, e)
		}
	}
}

func TestValUpToTheTop(t *testing.T) {
	s := made(t, "t 3 2 0 2147483648 2 2 2")
	ok(t, s.SetZero(top))
	if val(t, s, 0, 0, 0) != top {
		t.Errorf("%d", val(t, s, 0, 0, 0))
	}
	for i := range 3 {
		ok(t, s.SetUnary(i, 1, top))
	}
	for range 9 {
		add(t, s, fill(t, top, top, 2, 2, 2), 0, 1, 2)
	}
	if val(t, s, 1, 1, 1) != top || val(t, s, 0, 0, 0) != top {
		t.Errorf("%d, %d", val(t, s, 1, 1, 1), val(t, s, 0, 0, 0))
	}
	ok(t, s.SetZero(0))
	for j := range 9 {
		ok(t, s.Kill(j))
	}
	if val(t, s, 0, 0, 0) != 0 || val(t, s, 1, 0, 0) != top || val(t, s, 1, 1, 1) != top {
		t.Errorf("%v", look(t, s))
	}
	ok(t, s.SetUnary(0, 1, top-1))
	ok(t, s.SetUnary(1, 1, 1))
	if val(t, s, 1, 0, 0) != top-1 || val(t, s, 1, 1, 0) != top {
		t.Errorf("%v", look(t, s))
	}
}

func TestValOfVariablesThatAreGone(t *testing.T) {
	s := made(t, "t 3 3 2 9 2 3 2, 1 1 4 0, 2 0 2 1 1 1 0 3")
	ok(t, s.SetUnary(1, 2, 9))
	ok(t, s.Drop(1, 0))
	ok(t, s.Remove(state.Elim{Var: 1, Best: []int{1}}))
	for _, v := range []int{0, 1, 2, 3, -1, 77, math.MaxInt, math.MinInt} {
		if val(t, s, 1, v, 0) != 3 || val(t, s, 0, v, 0) != 1 {
			t.Errorf("Val with %d: %d, %d", v, val(t, s, 1, v, 0), val(t, s, 0, v, 0))
		}
		for _, l := range [][]int{{1, v}, {1, v, 0, 0}, {2, v, 0}, {0, v, -1}} {
			if c, e := s.Val(l); c != 0 || e != api.ErrRange {
				t.Errorf("Val(%v) = %d, error %d", l, c, e)
			}
		}
	}
	ok(t, s.Kill(0))
	ok(t, s.Remove(state.Elim{Var: 2, Scope: []int{0}, Best: []int{1, 0}}))
	ok(t, s.Remove(state.Elim{Var: 0, Best: []int{-1}}))
	ok(t, s.SetZero(2))
	if val(t, s, 5, 6, 7) != 2 || val(t, s, -5, math.MinInt, math.MaxInt) != 2 {
		t.Errorf("%v", look(t, s))
	}
	if c, e := s.Val([]int{0, 0}); c != 0 || e != api.ErrRange {
		t.Errorf("%d, error %d", c, e)
	}
}

func TestNilState(t *testing.T) {
	if s := state.New(nil); s != nil {
		t.Errorf("New(nil): %v", s)
	}
	var s *state.State
	if s.Net() != nil || s.K() != 0 || s.N() != 0 || s.Zero() != 0 || s.Funs() != 0 || s.Mark() != 0 || s.Depth() != 0 || len(s.Elims()) != 0 || len(s.Facts()) != 0 {
		t.Errorf("%v, %d, %d, %d, %d, %d, %d, %v, %v", s.Net(), s.K(), s.N(), s.Zero(), s.Funs(), s.Mark(), s.Depth(), s.Elims(), s.Facts())
	}
	for _, i := range []int{-1, 0, 1} {
		if s.Dom(i) != (dom.Set{}) || s.Gone(i) || s.Live(i) || len(s.Scope(i)) != 0 || len(s.Near(i)) != 0 {
			t.Errorf("%d: %v, %v, %v, %v, %v", i, s.Dom(i), s.Gone(i), s.Live(i), s.Scope(i), s.Near(i))
		}
	}
	for _, l := range [][]int{nil, {0}, {0, 1}} {
		c, ce := s.Cost(0, l)
		d, de := s.Val(l)
		j, je := s.Add(l, fill(t, 9, 0, 2, 2))
		if s.Find(l) != -1 || c != 0 || ce != api.ErrNone || d != 0 || de != api.ErrNone || j != 0 || je != api.ErrNone {
			t.Errorf("%v: %d; %d, error %d; %d, error %d; %d, error %d", l, s.Find(l), c, ce, d, de, j, je)
		}
	}
	c, ce := s.Unary(0, 0)
	j, je := s.Add(nil, nil)
	if c != 0 || ce != api.ErrNone || j != 0 || je != api.ErrNone {
		t.Errorf("%d, error %d; %d, error %d", c, ce, j, je)
	}
	for _, v := range []int64{-1, 0, 1, top + 1} {
		i := int(v)
		for what, e := range map[string]api.Errno{
			"SetZero": s.SetZero(v), "SetUnary": s.SetUnary(i, i, v), "SetCost": s.SetCost(i, nil, v), "Drop": s.Drop(i, i),
			"Kill": s.Kill(i), "Remove": s.Remove(state.Elim{Var: i}), "Undo": s.Undo(i),
		} {
			if e != api.ErrNone {
				t.Errorf("%s of %d: error %d", what, v, e)
			}
		}
	}
}
