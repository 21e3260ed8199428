package check_test

import (
	"cmp"
	"fmt"
	"math/rand"
	"reflect"
	"slices"
	"strings"
	"testing"

	"pennyweight/api"
	"pennyweight/check"
	"pennyweight/dom"
	"pennyweight/net"
	"pennyweight/state"
	"pennyweight/table"
	"pennyweight/wcsp"
)

const top = int64(api.MaxCost)

// told is what a state tells.
type told struct {
	k      int64
	zero   int64
	doms   []dom.Set
	gone   []bool
	unary  [][]int64
	live   []bool
	scopes [][]int
	costs  [][]int64 // by the tuples' numbers
	near   [][]int
	elims  []state.Elim
	depth  int
	vals   []int64 // by the assignments' numbers
	facts  []int64
}

func made(t *testing.T, text string) *state.State {
	t.Helper()
	f, at, e := wcsp.Read([]byte(strings.ReplaceAll(text, ",", "")))
	if e != api.OK {
		t.Fatalf("Read(%.99q): place %d, error %d", text, at, e)
	}
	n, e := net.Of(f)
	if e != api.OK {
		t.Fatalf("Of(%.99q): error %d", text, e)
	}
	return state.New(n)
}

func ok(t *testing.T, e api.Errno) {
	t.Helper()
	if e != api.OK {
		t.Fatalf("error %d", e)
	}
}

func add(t *testing.T, s *state.State, c int64, scope ...int) int {
	t.Helper()
	var sizes []int
	for _, i := range scope {
		sizes = append(sizes, s.Net().Size(i))
	}
	x, e := table.New(sizes, s.K(), c)
	ok(t, e)
	j, e := s.Add(scope, x)
	ok(t, e)
	return j
}

// tuplesOf are all, in layer 3's order.
func tuplesOf(s *state.State, scope []int) [][]int {
	if len(scope) == 0 {
		return [][]int{{}}
	}
	var all [][]int
	for v := range s.Net().Size(scope[0]) {
		for _, rest := range tuplesOf(s, scope[1:]) {
			all = append(all, append([]int{v}, rest...))
		}
	}
	return all
}

func varsOf(s *state.State) []int {
	var vars []int
	for i := range s.N() {
		vars = append(vars, i)
	}
	return vars
}

func look(t *testing.T, s *state.State) told {
	t.Helper()
	l := told{k: s.K(), zero: s.Zero(), elims: s.Elims(), depth: s.Depth(), facts: s.Facts()}
	for i := range s.N() {
		var costs []int64
		for v := range s.Net().Size(i) {
			c, e := s.Unary(i, v)
			ok(t, e)
			costs = append(costs, c)
		}
		l.doms, l.gone, l.unary, l.near = append(l.doms, s.Dom(i)), append(l.gone, s.Gone(i)), append(l.unary, costs), append(l.near, s.Near(i))
	}
	for j := range s.Funs() {
		var costs []int64
		for _, x := range tuplesOf(s, s.Scope(j)) {
			c, e := s.Cost(j, x)
			if s.Live(j) {
				ok(t, e)
				costs = append(costs, c)
			}
		}
		l.live, l.scopes, l.costs = append(l.live, s.Live(j)), append(l.scopes, s.Scope(j)), append(l.costs, costs)
	}
	for _, a := range tuplesOf(s, varsOf(s)) {
		c, e := s.Val(a)
		ok(t, e)
		l.vals = append(l.vals, c)
	}
	return l
}

// unchanged holds what is told now against what was.
func unchanged(t *testing.T, s *state.State, before told) {
	t.Helper()
	if got := look(t, s); !reflect.DeepEqual(got, before) {
		t.Fatalf("told is\n%v, not\n%v", got, before)
	}
}

// someCost is 0, but of every so many: of these K, or 1, or any.
func someCost(r *rand.Rand, k int64, many int) int64 {
	if r.Intn(many) > 0 {
		return 0
	}
	return []int64{k, 1, r.Int63n(k + 1)}[r.Intn(3)]
}

func someText(r *rand.Rand) string {
	n, k := min(1+r.Intn(8), 4), []int64{1, 2, 9, top}[r.Intn(4)]
	arities := []int{0, 1, 2, 2, 2, 2, 3, 4}
	var sizes, funs strings.Builder
	for range n {
		fmt.Fprint(&sizes, " ", min(1+r.Intn(5), 3))
	}
	count := r.Intn(9)
	for range count {
		scope := r.Perm(n)[:min(n, arities[r.Intn(len(arities))])]
		fmt.Fprint(&funs, " ", len(scope))
		for _, i := range scope {
			fmt.Fprint(&funs, " ", i)
		}
		fmt.Fprint(&funs, " 1 0")
	}
	return fmt.Sprint("t ", n, " 3 ", count, " ", k, sizes.String(), funs.String())
}

// someState has of all that a state can have something, mostly; of its costs
// one of every so many isn't 0.
func someState(t *testing.T, r *rand.Rand, many int) *state.State {
	t.Helper()
	s := made(t, someText(r))
	ok(t, s.SetZero(someCost(r, s.K()-1, 2)))
	for i := range s.N() {
		for v := range s.Net().Size(i) {
			ok(t, s.SetUnary(i, v, someCost(r, s.K(), many)))
		}
	}
	for range r.Intn(3) {
		if scope := varsOf(s); s.N() >= 2 {
			at := r.Intn(s.N() - 1)
			add(t, s, 0, scope[at:at+2]...)
		}
	}
	for j := range s.Funs() {
		for _, x := range tuplesOf(s, s.Scope(j)) {
			ok(t, s.SetCost(j, x, someCost(r, s.K(), many)))
		}
		if r.Intn(5) == 0 {
			ok(t, s.Kill(j))
		}
	}
	for i := range s.N() {
		if r.Intn(3) == 0 {
			ok(t, s.Drop(i, r.Intn(s.Net().Size(i))))
		}
		if r.Intn(3) == 0 {
			s.Remove(state.Elim{Var: i, Best: []int{0}})
		}
	}
	return s
}

// model is what is asked of a state, by the document's words alone.
type model struct {
	*state.State
}

func (m model) unary(i, v int) int64 {
	c, _ := m.Unary(i, v)
	return c
}

// free asks whether a tuple of the function j with v of i, of values that are
// left, costs 0: and so do its other values, if they count, too.
func (m model) free(j, i, v int, too bool) bool {
	scope := m.Scope(j)
	return slices.ContainsFunc(tuplesOf(m.State, scope), func(x []int) bool {
		c, _ := m.Cost(j, x)
		for p, o := range scope {
			if !m.Dom(o).Has(x[p]) || o == i && x[p] != v || too && o != i && m.unary(o, x[p]) != 0 {
				return false
			}
		}
		return c == 0
	})
}

// funs are the live functions of i: of so many variables, but 0 says of any many.
func (m model) funs(i, arity int) []int {
	var l []int
	for j := range m.Funs() {
		if scope := m.Scope(j); m.Live(j) && slices.Contains(scope, i) && (arity == 0 || len(scope) == arity) {
			l = append(l, j)
		}
	}
	return l
}

// serves asks whether a value is free by itself and in all functions of two.
func (m model) serves(i, v int) bool {
	return m.unary(i, v) == 0 && !slices.ContainsFunc(m.funs(i, 2), func(j int) bool { return !m.free(j, i, v, true) })
}

// some asks whether some value of i that is left is so.
func (m model) some(i int, so func(v int) bool) bool {
	return slices.ContainsFunc(slices.Collect(m.Dom(i).Values()), so)
}

func (m model) faults(level int) []check.Fault {
	var l []check.Fault
	for i := range m.N() {
		if m.Gone(i) {
			continue
		}
		if level >= 1 && !m.some(i, func(v int) bool { return m.unary(i, v) == 0 }) {
			l = append(l, check.Fault{Level: 1, Var: i, Fun: -1, Value: -1})
		}
		for v := range m.Dom(i).Values() {
			if level >= 1 && m.Zero()+m.unary(i, v) >= m.K() {
				l = append(l, check.Fault{Level: 1, Var: i, Fun: -1, Value: v})
			}
			for _, j := range m.funs(i, 0) {
				if level >= 2 && !m.free(j, i, v, false) {
					l = append(l, check.Fault{Level: 2, Var: i, Fun: j, Value: v})
				}
			}
			for _, j := range m.funs(i, 2) {
				if level >= 3 && m.Scope(j)[0] == i && !m.free(j, i, v, true) {
					l = append(l, check.Fault{Level: 3, Var: i, Fun: j, Value: v})
				}
			}
		}
		if level >= 4 && !m.some(i, func(v int) bool { return m.serves(i, v) }) {
			l = append(l, check.Fault{Level: 4, Var: i, Fun: -1, Value: -1})
		}
	}
	slices.SortFunc(l, inOrder)
	return l
}

// mend takes costs away till the state is of a level, or no value is left that could be free.
func (m model) mend(t *testing.T, r *rand.Rand, level int) {
	t.Helper()
	for range 200 {
		l := m.faults(level)
		if len(l) == 0 {
			return
		}
		f := l[r.Intn(len(l))]
		switch d := m.Dom(f.Var); {
		case d.Len() == 0:
			return
		case f.Level == 1 && f.Value < 0:
			ok(t, m.SetUnary(f.Var, d.Next(r.Intn(d.Last()+1)-1), 0))
		case f.Level == 1:
			ok(t, m.SetZero(0))
			ok(t, m.SetUnary(f.Var, f.Value, min(m.unary(f.Var, f.Value), m.K()-1)))
		default:
			m.freed(t, r, f)
		}
	}
}

// freed makes a tuple be free that the value of a fault has.
func (m model) freed(t *testing.T, r *rand.Rand, f check.Fault) {
	t.Helper()
	scope := m.Scope(f.Fun)
	all := tuplesOf(m.State, scope)
	x := all[r.Intn(len(all))]
	x[slices.Index(scope, f.Var)] = f.Value
	ok(t, m.SetCost(f.Fun, x, 0))
	if f.Level == 3 {
		ok(t, m.SetUnary(scope[1], x[1], 0))
	}
}

func inOrder(a, b check.Fault) int {
	return cmp.Or(a.Level-b.Level, a.Var-b.Var, a.Fun-b.Fun, a.Value-b.Value)
}

// onAll asks for each level, and those beside them; what is told is the greatest
// one that the state is of.
func onAll(t *testing.T, s *state.State) int {
	t.Helper()
	before, most := look(t, s), 0
	for level := range 5 {
		want := model{s}.faults(level)
		l, e := check.Why(s, level)
		if !slices.Equal(l, want) || e != api.OK {
			t.Fatalf("Why(%d): %v, error %d, not %v, of\n%v", level, l, e, want, before)
		}
		is, e := check.Is(s, level)
		if is != (len(want) == 0) || e != api.OK {
			t.Fatalf("Is(%d): %v, error %d, of\n%v", level, is, e, before)
		}
		if is {
			most = level
		}
	}
	if got := check.Of(s); got != most {
		t.Fatalf("Of: %d, not %d, of\n%v", got, most, before)
	}
	unchanged(t, s, before)
	return most
}

func TestManyStates(t *testing.T) {
	r := rand.New(rand.NewSource(15))
	var seen [5]int
	for range 2500 {
		s := someState(t, r, 1+r.Intn(4))
		onAll(t, s)
		model{s}.mend(t, r, []int{1, 2, 3, 3, 3}[r.Intn(5)])
		seen[onAll(t, s)]++
	}
	if slices.Min(seen[:]) < 15 {
		t.Errorf("so many states were of each level: %v", seen)
	}
}

// What was set behind a mark counts till it is undone, and no longer.
func TestBehindMarks(t *testing.T) {
	r := rand.New(rand.NewSource(51))
	for range 300 {
		s := someState(t, r, 3)
		before, m := look(t, s), s.Mark()
		for i := range s.N() {
			ok(t, s.SetUnary(i, 0, someCost(r, s.K(), 2)))
			ok(t, s.Drop(i, r.Intn(s.Net().Size(i))))
		}
		onAll(t, s)
		ok(t, s.Undo(m))
		unchanged(t, s, before)
		onAll(t, s)
	}
}
