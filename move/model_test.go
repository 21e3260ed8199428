package move_test

import (
	"math/rand"
	"reflect"
	"slices"
	"strings"
	"testing"

	"pennyweight/api"
	"pennyweight/dom"
	"pennyweight/move"
	"pennyweight/net"
	"pennyweight/state"
	"pennyweight/table"
	"pennyweight/wcsp"
)

const top = int64(api.MaxCost)

// three has variables of 2, 3 and 2 values, costs of each kind, and K 9. Of the
// function 0: 0 5 0, 0 0 9; of the function 1 all cost 1, but 1 2 0 costs 6.
const three = "t 3 3 5 9 2 3 2, 0 1 0, 1 1 0 2 1 3 2 9, 1 2 4 0, 2 0 1 0 2 0 1 5 1 2 9, 3 0 1 2 1 1 1 2 0 6"

// told is what a state tells.
type told struct {
	k      int64
	zero   int64
	doms   []dom.Set
	gone   []bool
	unary  [][]int64
	live   []bool
	scopes [][]int
	costs  [][]int64 // by the tuples' numbers
	near   [][]int
	elims  []state.Elim
	depth  int
	vals   []int64 // by the assignments' numbers
	facts  []int64
}

func made(t *testing.T, text string) *state.State {
	t.Helper()
	f, at, e := wcsp.Read([]byte(strings.ReplaceAll(text, ",", "")))
	if e != api.OK {
		t.Fatalf("Read(%.99q): place %d, error %d", text, at, e)
	}
	n, e := net.Of(f)
	if e != api.OK {
		t.Fatalf("Of(%.99q): error %d", text, e)
	}
	return state.New(n)
}

func ok(t *testing.T, e api.Errno) {
	t.Helper()
	if e != api.OK {
		t.Fatalf("error %d", e)
	}
}

func is(t *testing.T, what string, e, want api.Errno) {
	t.Helper()
	if e != want {
		t.Errorf("%s: error %d, not %d", what, e, want)
	}
}

// costsOf are a function's, by the tuples' numbers.
func costsOf(t *testing.T, s *state.State, j int) []int64 {
	t.Helper()
	var costs []int64
	for _, tuple := range tuplesOf(s, s.Scope(j)) {
		c, e := s.Cost(j, tuple)
		ok(t, e)
		costs = append(costs, c)
	}
	return costs
}

func unaries(t *testing.T, s *state.State, i int) []int64 {
	t.Helper()
	var costs []int64
	for v := range s.Net().Size(i) {
		c, e := s.Unary(i, v)
		ok(t, e)
		costs = append(costs, c)
	}
	return costs
}

func same(t *testing.T, what string, got []int64, want ...int64) {
	t.Helper()
	if !slices.Equal(got, want) {
		t.Errorf("%s: %v, not %v", what, got, want)
	}
}

func room(t *testing.T, s *state.State, j, pos, v int, want int64) {
	t.Helper()
	if c, e := move.Room(s, j, pos, v); c != want || e != api.OK {
		t.Errorf("Room(%d, %d, %d): %d, error %d, not %d", j, pos, v, c, e, want)
	}
}

func add(t *testing.T, s *state.State, c int64, scope ...int) int {
	t.Helper()
	var sizes []int
	for _, i := range scope {
		sizes = append(sizes, s.Net().Size(i))
	}
	x, e := table.New(sizes, s.K(), c)
	ok(t, e)
	j, e := s.Add(scope, x)
	ok(t, e)
	return j
}

func tuplesOf(s *state.State, scope []int) [][]int {
	if len(scope) == 0 {
		return [][]int{{}}
	}
	var all [][]int
	for v := range s.Net().Size(scope[0]) {
		for _, rest := range tuplesOf(s, scope[1:]) {
			all = append(all, append([]int{v}, rest...))
		}
	}
	return all
}

func varsOf(s *state.State) []int {
	var vars []int
	for i := range s.N() {
		vars = append(vars, i)
	}
	return vars
}

func look(t *testing.T, s *state.State) told {
	t.Helper()
	l := told{k: s.K(), zero: s.Zero(), elims: s.Elims(), depth: s.Depth(), facts: s.Facts()}
	for i := range s.N() {
		l.doms, l.gone, l.unary, l.near = append(l.doms, s.Dom(i)), append(l.gone, s.Gone(i)), append(l.unary, unaries(t, s, i)), append(l.near, s.Near(i))
	}
	for j := range s.Funs() {
		var costs []int64
		if s.Live(j) {
			costs = costsOf(t, s, j)
		}
		l.live, l.scopes, l.costs = append(l.live, s.Live(j)), append(l.scopes, s.Scope(j)), append(l.costs, costs)
	}
	for _, a := range tuplesOf(s, varsOf(s)) {
		c, e := s.Val(a)
		ok(t, e)
		l.vals = append(l.vals, c)
	}
	return l
}

// call is one of the calls that move costs, with its arguments.
type call struct {
	what    string
	a, b, v int // a function, a place, a value; or a variable, and a value
	c       int64
}

var names = []string{"Project", "Extend", "Lower", "Raise", "Prune", "Assign"}

func (x call) do(s *state.State) api.Errno {
	switch x.what {
	case "Project":
		return move.Project(s, x.a, x.b, x.v, x.c)
	case "Extend":
		return move.Extend(s, x.a, x.b, x.v, x.c)
	case "Lower":
		return move.Lower(s, x.a, x.c)
	case "Raise":
		return move.Raise(s, x.a, x.c)
	case "Prune":
		return move.Prune(s, x.a, x.v)
	}
	return move.Assign(s, x.a, x.v)
}

func (x call) places() bool { return x.what == "Project" || x.what == "Extend" }

func (x call) moves() bool { return x.what != "Prune" && x.what != "Assign" }

func (x call) counts() bool { return x.what == "Lower" || x.what == "Raise" }

// fits asks whether the arguments are some that there are.
func (x call) fits(w told) bool {
	if x.places() {
		return 0 <= x.a && x.a < len(w.live) && w.live[x.a] && 0 <= x.b && x.b < len(w.scopes[x.a]) && w.doms[w.scopes[x.a][x.b]].Has(x.v)
	}
	return 0 <= x.a && x.a < len(w.doms) && !w.gone[x.a] && (x.counts() || w.doms[x.a].Has(x.v))
}

func more(a, c, k int64) int64 { return min(a+c, k) }

func less(a, c, k int64) int64 {
	if a == k {
		return k
	}
	return a - c
}

// entries are the numbers of the tuples of x's value.
func (x call) entries(s *state.State, w told) []int {
	var l []int
	for n, tuple := range tuplesOf(s, w.scopes[x.a]) {
		all := tuple[x.b] == x.v
		for p, i := range w.scopes[x.a] {
			all = all && w.doms[i].Has(tuple[p])
		}
		if all {
			l = append(l, n)
		}
	}
	return l
}

// most is how much can be moved, by the document's words; -1: not even 0 can.
func (x call) most(s *state.State, w told) int64 {
	least := w.k
	switch x.what {
	case "Project":
		for _, n := range x.entries(s, w) {
			least = min(least, w.costs[x.a][n])
		}
		return least
	case "Extend":
		return w.unary[w.scopes[x.a][x.b]][x.v]
	case "Prune":
		if w.zero+w.unary[x.a][x.v] < w.k {
			return -1
		}
	case "Lower", "Raise":
		if w.doms[x.a].Len() == 0 {
			return -1
		}
		if x.what == "Raise" {
			return w.zero
		}
		for v := range w.doms[x.a].Values() {
			least = min(least, w.unary[x.a][v])
		}
		return least
	}
	return w.k
}

// on does the call to what was told, but for Vals and Facts.
func (x call) on(s *state.State, w *told) api.Errno {
	switch {
	case !x.fits(*w):
		return api.ErrArg
	case x.moves() && (x.c < 0 || x.c > w.k):
		return api.ErrRange
	case x.moves() && x.c > x.most(s, *w), x.most(s, *w) < 0:
		return api.ErrIllegal
	}
	many, one := less, more
	if x.what == "Extend" || x.what == "Raise" {
		many, one = more, less
	}
	switch x.what {
	case "Project", "Extend":
		for _, n := range x.entries(s, *w) {
			w.costs[x.a][n] = many(w.costs[x.a][n], x.c, w.k)
		}
		i := w.scopes[x.a][x.b]
		w.unary[i][x.v] = one(w.unary[i][x.v], x.c, w.k)
	case "Lower", "Raise":
		for v := range w.doms[x.a].Values() {
			w.unary[x.a][v] = many(w.unary[x.a][v], x.c, w.k)
		}
		w.zero = one(w.zero, x.c, w.k)
	case "Prune":
		w.doms[x.a] = w.doms[x.a].Drop(x.v)
	case "Assign":
		w.doms[x.a] = w.doms[x.a].Only(x.v)
	}
	return api.OK
}

// vals is what becomes of each assignment: nothing, but by Assign.
func (x call) vals(s *state.State, were []int64, k int64) []int64 {
	now := slices.Clone(were)
	for n, a := range tuplesOf(s, varsOf(s)) {
		if x.what == "Assign" && a[x.a] != x.v {
			now[n] = k
		}
	}
	return now
}

// try does a call and holds it against what it is to do.
func try(t *testing.T, s *state.State, x call) api.Errno {
	t.Helper()
	before, want := look(t, s), look(t, s)
	wrong := x.on(s, &want)
	e := x.do(s)
	if e != wrong {
		t.Fatalf("%v on %v: error %d, not %d", x, before, e, wrong)
	}
	got := look(t, s)
	if e == api.OK {
		want.vals, want.facts = x.vals(s, before.vals, before.k), got.facts
	}
	if !reflect.DeepEqual(got, want) {
		t.Fatalf("%v on %v: told is\n%v, not\n%v", x, before, got, want)
	}
	return e
}

// undone does a call twice: to undo it, and to let it stand.
func undone(t *testing.T, s *state.State, x call) api.Errno {
	t.Helper()
	before, m := look(t, s), s.Mark()
	e := try(t, s, x)
	behind := look(t, s)
	ok(t, s.Undo(m))
	if got := look(t, s); !reflect.DeepEqual(got, before) {
		t.Fatalf("%v is undone: told is\n%v, not\n%v", x, got, before)
	}
	try(t, s, x)
	if got := look(t, s); !slices.Equal(got.facts, behind.facts) {
		t.Fatalf("%v done again: the facts are\n%v, not\n%v", x, got.facts, behind.facts)
	}
	return e
}

// bases are states of three, in which there is what is out of the ordinary.
func bases(t *testing.T) map[string]*state.State {
	t.Helper()
	all := map[string]*state.State{}
	for _, what := range []string{"new", "dropped", "empty", "one left", "killed", "gone", "marked", "can't be", "free", "twice"} {
		all[what] = made(t, three)
	}
	ok(t, all["dropped"].Drop(1, 0))
	ok(t, all["dropped"].Drop(2, 1))
	for v := range 3 {
		ok(t, all["empty"].Drop(1, v))
	}
	ok(t, all["one left"].Drop(0, 0))
	ok(t, all["one left"].Drop(1, 2))
	ok(t, all["one left"].Drop(1, 0))
	ok(t, all["killed"].Kill(0))
	ok(t, all["gone"].Kill(1))
	ok(t, all["gone"].Remove(state.Elim{Var: 2, Scope: []int{0}, Best: []int{1, 0}}))
	all["marked"].Mark()
	ok(t, all["marked"].SetUnary(0, 0, 3))
	all["marked"].Mark()
	ok(t, all["can't be"].SetZero(9))
	ok(t, all["can't be"].SetUnary(0, 0, 9))
	ok(t, all["can't be"].SetUnary(0, 1, 9))
	for _, tuple := range tuplesOf(all["can't be"], []int{0, 1}) {
		ok(t, all["can't be"].SetCost(0, tuple, 9))
	}
	ok(t, all["free"].SetZero(0))
	ok(t, all["free"].SetUnary(2, 0, 0))
	ok(t, all["free"].SetUnary(2, 1, 0))
	add(t, all["twice"], 4, 0, 1)
	add(t, all["twice"], 2, 0, 2)
	return all
}

// Each state is one with no more than its own marks behind each of the calls.
func TestAllCalls(t *testing.T) {
	for what, s := range bases(t) {
		before, seen := look(t, s), map[string]int{}
		for _, name := range names {
			for a := -1; a <= s.Funs()+1; a++ {
				for b := -1; b <= 3; b++ {
					for v := -1; v <= 3; v++ {
						for c := int64(-1); c <= 10; c++ {
							x := call{name, a, b, v, c}
							if !x.places() && b != 0 || !x.moves() && c != 0 || x.counts() && v != 0 {
								continue
							}
							m := s.Mark()
							if try(t, s, x) == api.OK {
								seen[name]++
							}
							ok(t, s.Undo(m))
							if got := look(t, s); !reflect.DeepEqual(got, before) {
								t.Fatalf("%s: %v is undone: told is\n%v, not\n%v", what, x, got, before)
							}
						}
					}
				}
			}
		}
		if what == "can't be" && len(seen) < len(names) {
			t.Errorf("%s: there are calls that none was legal of: %v", what, seen)
		}
	}
}

func someCall(r *rand.Rand, s *state.State) call {
	x := call{what: names[r.Intn(len(names))], a: r.Intn(max(s.Funs(), s.N())+1) - 1, b: r.Intn(5) - 1, v: r.Intn(4) - 1}
	switch r.Intn(4) {
	case 0:
		x.c = r.Int63n(s.K()+3) - 1
	case 1:
		x.c = []int64{0, 1, s.K() - 1, s.K(), s.Zero(), s.Zero() + 1}[r.Intn(6)]
	case 2:
		x.c, _ = move.Room(s, x.a, x.b, x.v)
	case 3:
		if scope := s.Scope(x.a); x.places() && 0 <= x.b && x.b < len(scope) {
			x.c, _ = s.Unary(scope[x.b], x.v)
		} else {
			x.c, _ = s.Unary(x.a, r.Intn(2))
		}
	}
	if r.Intn(9) == 0 {
		x.c++
	}
	return x
}

// Assign, which leaves little to do, comes seldom.
func TestManyCalls(t *testing.T) {
	for seed, text := range []string{
		three,
		"t 1 3 1 5 3, 1 0 2 2 1 0 2 5",
		"t 2 1 2 1 1 1, 2 0 1 0 1 0 0 1, 1 0 0 0",
		"t 2 2 3 2147483648 2 2, 2 0 1 7 2 0 0 2147483648 1 1 2147483647, 1 0 2 1 1 2147483648, 1 1 2147483640 0",
		"t 4 3 4 20 2 1 3 2, 2 0 2 4 2 0 0 20 1 2 7, 2 2 3 3 1 1 1 0, 4 0 1 2 3 5 2 0 0 0 0 9 1 0 2 1 20, 1 3 6 0",
		"t 3 2 4 9 2 2 2, 2 0 1 3 1 0 0 5, 2 0 2 2 0, 2 1 2 4 1 1 0 9, 1 1 4 0",
		"t 7 2 1 9 2 2 1 1 1 1 2, 6 0 1 2 3 4 5 3 2 0 0 0 0 0 0 9 1 1 0 0 0 0 5",
	} {
		r := rand.New(rand.NewSource(int64(seed)))
		legal := map[string]int{}
		for range 40 {
			s := made(t, text)
			first := look(t, s)
			assigned := false
			for range 60 {
				x := someCall(r, s)
				if x.what == "Assign" && r.Intn(8) > 0 {
					continue
				}
				if undone(t, s, x) == api.OK {
					legal[x.what]++
					assigned = assigned || x.what == "Assign"
				}
			}
			if got := look(t, s); !assigned && !slices.Equal(got.vals, first.vals) {
				t.Fatalf("%s: the assignments cost\n%v, not\n%v", text, got.vals, first.vals)
			}
			if s.Mark() != 0 {
				t.Fatal("a mark is left open")
			}
		}
		if len(legal) < 4 {
			t.Errorf("%s: of few of the calls any was legal: %v", text, legal)
		}
	}
}

// Several calls in a row, with a mark ahead of each, are undone from the last one on.
func TestUndoOfManyCalls(t *testing.T) {
	r := rand.New(rand.NewSource(13))
	for range 60 {
		s := made(t, three)
		var were []told
		for len(were) < 12 {
			were = append(were, look(t, s))
			s.Mark()
			for range 1 + r.Intn(9) {
				try(t, s, someCall(r, s))
			}
		}
		for m := len(were) - 1; m >= 0; m -= 1 + r.Intn(3) {
			ok(t, s.Undo(m))
			if got := look(t, s); !reflect.DeepEqual(got, were[m]) {
				t.Fatalf("told is\n%v, not\n%v", got, were[m])
			}
		}
	}
}
