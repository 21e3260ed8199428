package soft_test

import (
	"fmt"
	"math/rand"
	"reflect"
	"slices"
	"strings"
	"testing"

	"pennyweight/api"
	"pennyweight/dom"
	"pennyweight/net"
	"pennyweight/soft"
	"pennyweight/state"
	"pennyweight/table"
	"pennyweight/wcsp"
)

const top = int64(api.MaxCost)

// told is what a state tells.
type told struct {
	k      int64
	zero   int64
	doms   []dom.Set
	gone   []bool
	unary  [][]int64
	live   []bool
	scopes [][]int
	costs  [][]int64 // by the tuples' numbers
	near   [][]int
	elims  []state.Elim
	depth  int
	vals   []int64 // by the assignments' numbers
	facts  []int64
}

func made(t *testing.T, text string) *state.State {
	t.Helper()
	f, at, e := wcsp.Read([]byte(strings.ReplaceAll(text, ",", "")))
	if e != api.OK {
		t.Fatalf("Read(%.99q): place %d, error %d", text, at, e)
	}
	n, e := net.Of(f)
	if e != api.OK {
		t.Fatalf("Of(%.99q): error %d", text, e)
	}
	return state.New(n)
}

func ok(t *testing.T, e api.Errno) {
	t.Helper()
	if e != api.OK {
		t.Fatalf("error %d", e)
	}
}

func add(t *testing.T, s *state.State, c int64, scope ...int) int {
	t.Helper()
	var sizes []int
	for _, i := range scope {
		sizes = append(sizes, s.Net().Size(i))
	}
	x, e := table.New(sizes, s.K(), c)
	ok(t, e)
	j, e := s.Add(scope, x)
	ok(t, e)
	return j
}

// tuplesOf are all, in layer 3's order.
func tuplesOf(s *state.State, scope []int) [][]int {
	if len(scope) == 0 {
		return [][]int{{}}
	}
	var all [][]int
	for v := range s.Net().Size(scope[0]) {
		for _, rest := range tuplesOf(s, scope[1:]) {
			all = append(all, append([]int{v}, rest...))
		}
	}
	return all
}

func varsOf(s *state.State) []int {
	var vars []int
	for i := range s.N() {
		vars = append(vars, i)
	}
	return vars
}

func look(t *testing.T, s *state.State) told {
	t.Helper()
	l := told{k: s.K(), zero: s.Zero(), elims: s.Elims(), depth: s.Depth(), facts: s.Facts()}
	for i := range s.N() {
		var costs []int64
		for v := range s.Net().Size(i) {
			c, e := s.Unary(i, v)
			ok(t, e)
			costs = append(costs, c)
		}
		l.doms, l.gone, l.unary, l.near = append(l.doms, s.Dom(i)), append(l.gone, s.Gone(i)), append(l.unary, costs), append(l.near, s.Near(i))
	}
	for j := range s.Funs() {
		var costs []int64
		for _, x := range tuplesOf(s, s.Scope(j)) {
			c, e := s.Cost(j, x)
			if s.Live(j) {
				ok(t, e)
				costs = append(costs, c)
			}
		}
		l.live, l.scopes, l.costs = append(l.live, s.Live(j)), append(l.scopes, s.Scope(j)), append(l.costs, costs)
	}
	for _, a := range tuplesOf(s, varsOf(s)) {
		c, e := s.Val(a)
		ok(t, e)
		l.vals = append(l.vals, c)
	}
	return l
}

// unchanged holds what is told now against what was.
func unchanged(t *testing.T, s *state.State, before told) {
	t.Helper()
	if got := look(t, s); !reflect.DeepEqual(got, before) {
		t.Fatalf("told is\n%v, not\n%v", got, before)
	}
}

// someCost is 0, or K, or beside one of them, more often than any other.
func someCost(r *rand.Rand, k int64) int64 {
	switch r.Intn(6) {
	case 0:
		return k
	case 1:
		return max(k-1, 0)
	case 2, 3:
		return r.Int63n(k + 1)
	case 4:
		return min(1, k)
	}
	return 0
}

func someText(r *rand.Rand) string {
	n, k := 1+r.Intn(4), []int64{1, 2, 9, 20, top}[r.Intn(5)]
	var sizes, funs strings.Builder
	for range n {
		fmt.Fprint(&sizes, " ", 1+r.Intn(3))
	}
	count := r.Intn(6)
	for range count {
		scope := r.Perm(n)[:r.Intn(n+1)]
		fmt.Fprint(&funs, " ", len(scope))
		for _, i := range scope {
			fmt.Fprint(&funs, " ", i)
		}
		fmt.Fprint(&funs, " ", someCost(r, k), " 0")
	}
	return fmt.Sprint("t ", n, " 3 ", count, " ", k, sizes.String(), funs.String())
}

// someState has of all that a state can have something, mostly.
func someState(t *testing.T, r *rand.Rand) *state.State {
	t.Helper()
	s := made(t, someText(r))
	ok(t, s.SetZero(someCost(r, s.K())/2))
	for i := range s.N() {
		for v := range s.Net().Size(i) {
			ok(t, s.SetUnary(i, v, someCost(r, s.K())))
		}
	}
	for range r.Intn(3) {
		if scope := varsOf(s); s.N() >= 2 {
			at := r.Intn(s.N() - 1)
			add(t, s, someCost(r, s.K()), scope[at:at+2]...)
		}
	}
	for j := range s.Funs() {
		for _, x := range tuplesOf(s, s.Scope(j)) {
			ok(t, s.SetCost(j, x, someCost(r, s.K())))
		}
		if r.Intn(5) == 0 {
			ok(t, s.Kill(j))
		}
	}
	for i := range s.N() {
		for r.Intn(3) == 0 {
			ok(t, s.Drop(i, r.Intn(s.Net().Size(i))))
		}
		if r.Intn(3) == 0 {
			s.Remove(state.Elim{Var: i, Best: []int{0}})
		}
	}
	return s
}

// leftTuples are those of the function j, of values that are left, with v at the place pos.
func leftTuples(s *state.State, j, pos, v int) [][]int {
	scope := s.Scope(j)
	return slices.DeleteFunc(tuplesOf(s, scope), func(x []int) bool {
		for p, i := range scope {
			if !s.Dom(i).Has(x[p]) {
				return true
			}
		}
		return x[pos] != v
	})
}

func isVar(s *state.State, i int) bool { return 0 <= i && i < s.N() && !s.Gone(i) }

func isSpot(s *state.State, j, pos, v int) bool {
	return s.Live(j) && 0 <= pos && pos < len(s.Scope(j)) && s.Dom(s.Scope(j)[pos]).Has(v)
}

// firstLeast is the place of the first of the least costs: -1 of none.
func firstLeast(costs []int64) int {
	for n, c := range costs {
		if c == slices.Min(costs) {
			return n
		}
	}
	return -1
}

func simple(s *state.State, j, pos, v int) (int64, []int, api.Errno) {
	if !isSpot(s, j, pos, v) {
		return 0, nil, api.ErrArg
	}
	var costs []int64
	all := leftTuples(s, j, pos, v)
	for _, x := range all {
		c, _ := s.Cost(j, x)
		costs = append(costs, c)
	}
	if len(all) == 0 {
		return s.K(), nil, api.OK
	}
	n := firstLeast(costs)
	return costs[n], all[n], api.OK
}

func full(s *state.State, j, pos, v int) (int64, int, api.Errno) {
	if !isSpot(s, j, pos, v) || len(s.Scope(j)) != 2 {
		return 0, -1, api.ErrArg
	}
	var costs []int64
	all := leftTuples(s, j, pos, v)
	for _, x := range all {
		c, _ := s.Cost(j, x)
		u, _ := s.Unary(s.Scope(j)[1-pos], x[1-pos])
		costs = append(costs, min(c+u, s.K()))
	}
	if len(all) == 0 {
		return s.K(), -1, api.OK
	}
	n := firstLeast(costs)
	return costs[n], all[n][1-pos], api.OK
}

// ofValues is the least cost of a value of i that is left.
func ofValues(s *state.State, i int, costOf func(v int) int64) (int64, int, api.Errno) {
	if !isVar(s, i) {
		return 0, -1, api.ErrArg
	}
	var costs []int64
	values := slices.Collect(s.Dom(i).Values())
	for _, v := range values {
		costs = append(costs, costOf(v))
	}
	if len(values) == 0 {
		return s.K(), -1, api.OK
	}
	n := firstLeast(costs)
	return costs[n], values[n], api.OK
}

func least(s *state.State, i int) (int64, int, api.Errno) {
	return ofValues(s, i, func(v int) int64 {
		c, _ := s.Unary(i, v)
		return c
	})
}

func need(s *state.State, i int) (int64, int, api.Errno) {
	return ofValues(s, i, func(v int) int64 {
		sum, _ := s.Unary(i, v)
		for j := range s.Funs() {
			scope := s.Scope(j)
			if s.Live(j) && len(scope) == 2 && slices.Contains(scope, i) {
				c, _, _ := full(s, j, slices.Index(scope, i), v)
				sum += c
			}
		}
		return min(sum, s.K())
	})
}

func bound(s *state.State) (int64, bool) {
	sum, wiped := s.Zero(), false
	for i := range s.N() {
		if isVar(s, i) {
			c, v, _ := least(s, i)
			sum, wiped = sum+c, wiped || v < 0
		}
	}
	return min(sum, s.K()), wiped
}

// answer is what a call answers.
type answer struct {
	c    int64
	what any
	e    api.Errno
}

func of[T any](c int64, what T, e api.Errno) answer { return answer{c, what, e} }

func alike(t *testing.T, s *state.State, what string, got, want answer) {
	t.Helper()
	if !reflect.DeepEqual(got, want) {
		t.Fatalf("%s is %v, not %v, of\n%v", what, got, want, look(t, s))
	}
}

// onAll does each call of a state, of all that there is and somewhat beyond.
func onAll(t *testing.T, s *state.State) {
	t.Helper()
	before := look(t, s)
	for i := -1; i <= s.N(); i++ {
		alike(t, s, fmt.Sprintf("Least(%d)", i), of(soft.Least(s, i)), of(least(s, i)))
		alike(t, s, fmt.Sprintf("Need(%d)", i), of(soft.Need(s, i)), of(need(s, i)))
	}
	for j := -1; j <= s.Funs(); j++ {
		for pos := -1; pos <= 4; pos++ {
			for v := -1; v <= 3; v++ {
				alike(t, s, fmt.Sprintf("Simple(%d, %d, %d)", j, pos, v), of(soft.Simple(s, j, pos, v)), of(simple(s, j, pos, v)))
				alike(t, s, fmt.Sprintf("Full(%d, %d, %d)", j, pos, v), of(soft.Full(s, j, pos, v)), of(full(s, j, pos, v)))
			}
		}
	}
	c, wiped := bound(s)
	if got, e := soft.Bound(s); got != c || e != api.OK {
		t.Fatalf("Bound is %d, error %d, not %d, of\n%v", got, e, c, before)
	}
	if got := soft.Wiped(s); got != wiped {
		t.Fatalf("Wiped is %v, of\n%v", got, before)
	}
	unchanged(t, s, before)
}

func TestManyStates(t *testing.T) {
	r := rand.New(rand.NewSource(14))
	for range 1500 {
		onAll(t, someState(t, r))
	}
}

// What was set behind a mark counts till it is undone, and no longer.
func TestBehindMarks(t *testing.T) {
	r := rand.New(rand.NewSource(41))
	for range 200 {
		s := someState(t, r)
		before, m := look(t, s), s.Mark()
		for i := range s.N() {
			ok(t, s.SetUnary(i, 0, someCost(r, s.K())))
			ok(t, s.Drop(i, r.Intn(s.Net().Size(i))))
		}
		for j := range s.Funs() {
			if s.Live(j) {
				ok(t, s.SetCost(j, tuplesOf(s, s.Scope(j))[0], someCost(r, s.K())))
			}
		}
		onAll(t, s)
		ok(t, s.Undo(m))
		unchanged(t, s, before)
		onAll(t, s)
	}
}
