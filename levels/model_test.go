// Package levels holds tests alone: what is promised of each level's package alike.
package levels

import (
	"fmt"
	"math/rand"
	"reflect"
	"slices"
	"strings"
	"testing"

	"pennyweight/api"
	"pennyweight/dom"
	"pennyweight/elim"
	"pennyweight/move"
	"pennyweight/net"
	"pennyweight/state"
	"pennyweight/table"
	"pennyweight/wcsp"
)

const top = int64(api.MaxCost)

// told is what a state tells.
type told struct {
	k      int64
	zero   int64
	doms   []dom.Set
	gone   []bool
	unary  [][]int64
	live   []bool
	scopes [][]int
	costs  [][]int64 // by the tuples' numbers
	near   [][]int
	elims  []state.Elim
	depth  int
	vals   []int64 // by the assignments' numbers
	facts  []int64
}

func made(t *testing.T, text string) *state.State {
	t.Helper()
	f, at, e := wcsp.Read([]byte(strings.ReplaceAll(text, ",", "")))
	if e != api.OK {
		t.Fatalf("Read(%.99q): place %d, error %d", text, at, e)
	}
	n, e := net.Of(f)
	if e != api.OK {
		t.Fatalf("Of(%.99q): error %d", text, e)
	}
	return state.New(n)
}

func ok(t *testing.T, e api.Errno) {
	t.Helper()
	if e != api.OK {
		t.Fatalf("error %d", e)
	}
}

// add adds a function whose tuples cost what is told of them.
func add(t *testing.T, s *state.State, scope []int, costOf func(x []int) int64) int {
	t.Helper()
	var sizes []int
	for _, i := range scope {
		sizes = append(sizes, s.Net().Size(i))
	}
	costs, e := table.New(sizes, s.K(), 0)
	ok(t, e)
	for _, x := range costs.Shape().All() {
		ok(t, costs.Put(x, costOf(x)))
	}
	j, e := s.Add(scope, costs)
	ok(t, e)
	return j
}

// tuplesOf are all, in layer 3's order.
func tuplesOf(s *state.State, scope []int) [][]int {
	if len(scope) == 0 {
		return [][]int{{}}
	}
	var all [][]int
	for v := range s.Net().Size(scope[0]) {
		for _, rest := range tuplesOf(s, scope[1:]) {
			all = append(all, append([]int{v}, rest...))
		}
	}
	return all
}

func varsOf(s *state.State) []int {
	var vars []int
	for i := range s.N() {
		vars = append(vars, i)
	}
	return vars
}

func look(t *testing.T, s *state.State) told {
	t.Helper()
	l := told{k: s.K(), zero: s.Zero(), elims: s.Elims(), depth: s.Depth(), facts: s.Facts()}
	for i := range s.N() {
		var costs []int64
		for v := range s.Net().Size(i) {
			c, e := s.Unary(i, v)
			ok(t, e)
			costs = append(costs, c)
		}
		l.doms, l.gone, l.unary, l.near = append(l.doms, s.Dom(i)), append(l.gone, s.Gone(i)), append(l.unary, costs), append(l.near, s.Near(i))
	}
	for j := range s.Funs() {
		var costs []int64
		for _, x := range tuplesOf(s, s.Scope(j)) {
			if c, e := s.Cost(j, x); s.Live(j) {
				ok(t, e)
				costs = append(costs, c)
			}
		}
		l.live, l.scopes, l.costs = append(l.live, s.Live(j)), append(l.scopes, s.Scope(j)), append(l.costs, costs)
	}
	for _, a := range tuplesOf(s, varsOf(s)) {
		c, e := s.Val(a)
		ok(t, e)
		l.vals = append(l.vals, c)
	}
	return l
}

// unchanged holds what is told now against what was.
func unchanged(t *testing.T, s *state.State, before told) {
	t.Helper()
	if got := look(t, s); !reflect.DeepEqual(got, before) {
		t.Fatalf("told is\n%v, not\n%v", got, before)
	}
}

// wiped asks whether a variable that isn't gone has no value left.
func (w told) wiped() bool {
	for i, d := range w.doms {
		if !w.gone[i] && d.Len() == 0 {
			return true
		}
	}
	return false
}

// least is the least unary cost of a value of i that is left.
func (w told) least(i int) int64 {
	low := w.k
	for v := range w.doms[i].Values() {
		low = min(low, w.unary[i][v])
	}
	return low
}

// free asks whether the function j has a tuple of values that are left, with v
// at that place, that costs 0.
func (w told) free(s *state.State, j, pos, v int) bool {
	for n, x := range tuplesOf(s, w.scopes[j]) {
		if x[pos] == v && w.costs[j][n] == 0 && w.left(w.scopes[j], x) {
			return true
		}
	}
	return false
}

func (w told) left(scope, x []int) bool {
	for p, i := range scope {
		if !w.doms[i].Has(x[p]) {
			return false
		}
	}
	return true
}

// node asks for the level NC, by the document's words alone.
func (w told) node() bool {
	for i, d := range w.doms {
		if w.gone[i] {
			continue
		}
		if w.least(i) != 0 {
			return false
		}
		for v := range d.Values() {
			if w.zero+w.unary[i][v] >= w.k {
				return false
			}
		}
	}
	return true
}

// arc asks for what the level AC asks beside NC.
func (w told) arc(s *state.State) bool {
	for j, scope := range w.scopes {
		for pos, i := range scope {
			for v := range w.doms[i].Values() {
				if w.live[j] && !w.free(s, j, pos, v) {
					return false
				}
			}
		}
	}
	return true
}

// directed asks for what the level FDAC asks beside AC.
func (w told) directed(s *state.State) bool {
	for j, scope := range w.scopes {
		for v := range w.doms[scope[0]].Values() {
			if w.live[j] && len(scope) == 2 && !w.full(s, j, 0, v) {
				return false
			}
		}
	}
	return true
}

// full asks whether the function j, of two variables, has a free tuple of v at that
// place with a value that costs 0 itself.
func (w told) full(s *state.State, j, pos, v int) bool {
	other := 1 - pos
	for n, x := range tuplesOf(s, w.scopes[j]) {
		if x[pos] == v && w.costs[j][n] == 0 && w.left(w.scopes[j], x) && w.unary[w.scopes[j][other]][x[other]] == 0 {
			return true
		}
	}
	return false
}

// existential asks for what the level EDAC asks beside FDAC.
func (w told) existential(s *state.State) bool {
	for i, d := range w.doms {
		if !w.gone[i] && !slices.ContainsFunc(valuesOf(d), func(v int) bool { return w.held(s, i, v) }) {
			return false
		}
	}
	return true
}

// held asks whether v costs 0, and has what full asks for in each function of i
// and one other variable.
func (w told) held(s *state.State, i, v int) bool {
	for j, scope := range w.scopes {
		pos := slices.Index(scope, i)
		if w.live[j] && len(scope) == 2 && pos >= 0 && !w.full(s, j, pos, v) {
			return false
		}
	}
	return w.unary[i][v] == 0
}

func valuesOf(d dom.Set) []int { return slices.Collect(d.Values()) }

// someCost is 0, but of every so many: of these K, or beside it, or little, or any.
func someCost(r *rand.Rand, k int64, many int) int64 {
	if r.Intn(many) > 0 {
		return 0
	}
	return []int64{k, k - 1, 1, 1 + k/9, r.Int63n(k + 1)}[r.Intn(5)]
}

var tops = []int64{1, 2, 9, 20, 1000, top}

func someText(r *rand.Rand) string {
	n, arities := 1+r.Intn(5), []int{0, 1, 2, 2, 2, 2, 2, 3, 3, 4, 5}
	var sizes, funs strings.Builder
	for range n {
		fmt.Fprint(&sizes, " ", 1+r.Intn(3))
	}
	count := r.Intn(7)
	for range count {
		scope := r.Perm(n)[:min(n, arities[r.Intn(len(arities))])]
		fmt.Fprint(&funs, " ", len(scope))
		for _, i := range scope {
			fmt.Fprint(&funs, " ", i)
		}
		fmt.Fprint(&funs, " 1 0")
	}
	return fmt.Sprint("t ", n, " 3 ", count, " ", tops[r.Intn(len(tops))], sizes.String(), funs.String())
}

// someState has costs of each kind, functions of one scope, killed ones, and
// variables that are gone, with values and without.
func someState(t *testing.T, r *rand.Rand) *state.State {
	t.Helper()
	s, many := made(t, someText(r)), 1+r.Intn(6)
	if r.Intn(40) > 0 {
		ok(t, s.SetZero(min(someCost(r, s.K(), 3), s.K()-1)))
	} else {
		ok(t, s.SetZero(s.K()))
	}
	for i := range s.N() {
		for v := range s.Net().Size(i) {
			ok(t, s.SetUnary(i, v, someCost(r, s.K(), many)))
		}
	}
	for j := range s.Funs() {
		for _, x := range tuplesOf(s, s.Scope(j)) {
			ok(t, s.SetCost(j, x, someCost(r, s.K(), many)))
		}
	}
	for range r.Intn(3) {
		if at := r.Intn(s.N()); at > 0 {
			add(t, s, []int{at - 1, at}, func([]int) int64 { return someCost(r, s.K(), many) })
		}
	}
	for j := range s.Funs() {
		if r.Intn(6) == 0 {
			ok(t, s.Kill(j))
		}
	}
	for i := range s.N() {
		if r.Intn(3) == 0 {
			s.Remove(state.Elim{Var: i, Best: []int{0}})
		}
		for v := range s.Net().Size(i) {
			if s.Gone(i) && r.Intn(2) == 0 || r.Intn(12) == 0 {
				ok(t, s.Drop(i, v))
			}
		}
	}
	return s
}

// somePairs has costs that are little, also beside what Zero is less than the top,
// mostly of two variables.
func somePairs(t *testing.T, r *rand.Rand) *state.State {
	t.Helper()
	n, k := 2+r.Intn(4), []int64{9, 20, 1000, top}[r.Intn(4)]
	var sizes strings.Builder
	for range n {
		fmt.Fprint(&sizes, " ", 1+r.Intn(5)%3) // mostly more than one
	}
	s, many := made(t, fmt.Sprint("t ", n, " 3 0 ", k, sizes.String())), 1+r.Intn(3)
	little := func([]int) int64 {
		switch {
		case r.Intn(many) > 0:
			return 0
		case r.Intn(9) == 0:
			return k
		}
		return r.Int63n(7)
	}
	if r.Intn(3) == 0 {
		ok(t, s.SetZero(k-1-r.Int63n(9)))
	}
	for i := range n {
		for v := range s.Net().Size(i) {
			ok(t, s.SetUnary(i, v, little(nil)))
		}
		for j := range i {
			if r.Intn(5) < 3 {
				add(t, s, []int{j, i}, little)
			}
			if r.Intn(5) == 0 && i < n-1 {
				add(t, s, []int{j, i, n - 1}, little)
			}
		}
	}
	return s
}

// someWeb has functions of nearly all two variables, mostly of little costs, but few
// costs of one variable: a value that is free with one neighbour seldom is with all.
func someWeb(t *testing.T, r *rand.Rand) *state.State {
	t.Helper()
	n, k := 3+r.Intn(3), []int64{9, 20, 1000, top}[r.Intn(4)]
	s := bare(t, n, 2+r.Intn(2), k)
	little := func([]int) int64 {
		if r.Intn(3) == 0 {
			return 0
		}
		return []int64{1, 2, 3, k}[r.Intn(4)]
	}
	for i := range n {
		for v := range s.Net().Size(i) {
			if r.Intn(9) == 0 {
				ok(t, s.SetUnary(i, v, little(nil)))
			}
		}
		for j := range i {
			if r.Intn(9) > 0 {
				add(t, s, []int{j, i}, little)
			}
		}
	}
	return s
}

// single kills each function whose scope another one has.
func single(t *testing.T, s *state.State) {
	t.Helper()
	for j := range s.Funs() {
		if s.Live(j) && s.Find(s.Scope(j)) != j {
			ok(t, s.Kill(j))
		}
	}
}

// play does some moves, whether they are legal or not; seldom it drops, kills or eliminates.
func play(t *testing.T, r *rand.Rand, s *state.State) {
	t.Helper()
	for range r.Intn(16) {
		i, j, pos, v := r.Intn(s.N()), r.Intn(s.Funs()+1), r.Intn(3), r.Intn(3)
		c := someCost(r, s.K(), 1)
		if scope := s.Scope(j); pos < len(scope) && r.Intn(3) > 0 {
			c, _ = []func() (int64, api.Errno){
				func() (int64, api.Errno) { return s.Unary(scope[pos], v) },
				func() (int64, api.Errno) { return move.Room(s, j, pos, v) },
			}[r.Intn(2)]()
		}
		switch r.Intn(16) {
		case 0, 1, 2:
			move.Lower(s, i, look(t, s).least(i))
		case 3, 4:
			move.Raise(s, i, min(c, s.Zero()))
		case 5:
			move.Prune(s, i, v)
		case 6:
			elim.Eliminate(s, i, r.Intn(4))
		case 7:
			if r.Intn(4) == 0 {
				s.Drop(i, v)
				s.Kill(j)
			}
		case 8:
			if r.Intn(4) == 0 {
				move.Assign(s, i, v)
			}
		case 9, 10, 11:
			move.Extend(s, j, pos, v, c)
		default:
			move.Project(s, j, pos, v, c)
		}
	}
}
