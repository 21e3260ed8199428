package elim_test

import (
	"fmt"
	"math/rand"
	"reflect"
	"slices"
	"strings"
	"testing"

	"pennyweight/api"
	"pennyweight/dom"
	"pennyweight/elim"
	"pennyweight/move"
	"pennyweight/net"
	"pennyweight/state"
	"pennyweight/table"
	"pennyweight/wcsp"
)

const top = int64(api.MaxCost)

// told is what a state tells.
type told struct {
	k      int64
	zero   int64
	doms   []dom.Set
	gone   []bool
	unary  [][]int64
	live   []bool
	scopes [][]int
	costs  [][]int64 // by the tuples' numbers
	near   [][]int
	elims  []state.Elim
	depth  int
	vals   []int64 // by the assignments' numbers
	facts  []int64
}

func made(t *testing.T, text string) *state.State {
	t.Helper()
	f, at, e := wcsp.Read([]byte(strings.ReplaceAll(text, ",", "")))
	if e != api.OK {
		t.Fatalf("Read(%.99q): place %d, error %d", text, at, e)
	}
	n, e := net.Of(f)
	if e != api.OK {
		t.Fatalf("Of(%.99q): error %d", text, e)
	}
	return state.New(n)
}

func ok(t *testing.T, e api.Errno) {
	t.Helper()
	if e != api.OK {
		t.Fatalf("error %d", e)
	}
}

func add(t *testing.T, s *state.State, c int64, scope ...int) int {
	t.Helper()
	var sizes []int
	for _, i := range scope {
		sizes = append(sizes, s.Net().Size(i))
	}
	x, e := table.New(sizes, s.K(), c)
	ok(t, e)
	j, e := s.Add(scope, x)
	ok(t, e)
	return j
}

// tuplesOf are all, in layer 3's order.
func tuplesOf(s *state.State, scope []int) [][]int {
	if len(scope) == 0 {
		return [][]int{{}}
	}
	var all [][]int
	for v := range s.Net().Size(scope[0]) {
		for _, rest := range tuplesOf(s, scope[1:]) {
			all = append(all, append([]int{v}, rest...))
		}
	}
	return all
}

func varsOf(s *state.State) []int {
	var vars []int
	for i := range s.N() {
		vars = append(vars, i)
	}
	return vars
}

func look(t *testing.T, s *state.State) told {
	t.Helper()
	l := told{k: s.K(), zero: s.Zero(), elims: s.Elims(), depth: s.Depth(), facts: s.Facts()}
	for i := range s.N() {
		var costs []int64
		for v := range s.Net().Size(i) {
			c, e := s.Unary(i, v)
			ok(t, e)
			costs = append(costs, c)
		}
		l.doms, l.gone, l.unary, l.near = append(l.doms, s.Dom(i)), append(l.gone, s.Gone(i)), append(l.unary, costs), append(l.near, s.Near(i))
	}
	for j := range s.Funs() {
		var costs []int64
		for _, x := range tuplesOf(s, s.Scope(j)) {
			c, e := s.Cost(j, x)
			if s.Live(j) {
				ok(t, e)
				costs = append(costs, c)
			}
		}
		l.live, l.scopes, l.costs = append(l.live, s.Live(j)), append(l.scopes, s.Scope(j)), append(l.costs, costs)
	}
	for _, a := range tuplesOf(s, varsOf(s)) {
		c, e := s.Val(a)
		ok(t, e)
		l.vals = append(l.vals, c)
	}
	return l
}

// unchanged holds what is told now against what was.
func unchanged(t *testing.T, s *state.State, before told) {
	t.Helper()
	if got := look(t, s); !reflect.DeepEqual(got, before) {
		t.Fatalf("told is\n%v, not\n%v", got, before)
	}
}

// someCost is 0, or K, or beside one of them, more often than any other.
func someCost(r *rand.Rand, k int64) int64 {
	switch r.Intn(6) {
	case 0:
		return k
	case 1:
		return k - 1
	case 2, 3:
		return r.Int63n(k + 1)
	case 4:
		return 1
	}
	return 0
}

func someText(r *rand.Rand) string {
	n, k := 1+r.Intn(5), []int64{1, 2, 9, 20, top}[r.Intn(5)]
	arities := []int{0, 1, 2, 2, 2, 2, 3, 3, 4}
	var sizes, funs strings.Builder
	for range n {
		fmt.Fprint(&sizes, " ", 1+r.Intn(3))
	}
	count := r.Intn(6)
	for range count {
		scope := r.Perm(n)[:min(n, arities[r.Intn(len(arities))])]
		fmt.Fprint(&funs, " ", len(scope))
		for _, i := range scope {
			fmt.Fprint(&funs, " ", i)
		}
		fmt.Fprint(&funs, " 1 0")
	}
	return fmt.Sprint("t ", n, " 3 ", count, " ", k, sizes.String(), funs.String())
}

// someState has of all that a state can have something, mostly.
func someState(t *testing.T, r *rand.Rand) *state.State {
	t.Helper()
	s := made(t, someText(r))
	ok(t, s.SetZero(someCost(r, s.K())/2))
	for i := range s.N() {
		for v := range s.Net().Size(i) {
			ok(t, s.SetUnary(i, v, someCost(r, s.K())))
		}
	}
	for range r.Intn(3) {
		if scope := varsOf(s); s.N() >= 2 {
			at := r.Intn(s.N() - 1)
			add(t, s, 0, scope[at:at+2]...)
		}
	}
	for j := range s.Funs() {
		for _, x := range tuplesOf(s, s.Scope(j)) {
			ok(t, s.SetCost(j, x, someCost(r, s.K())))
		}
		if r.Intn(7) == 0 {
			ok(t, s.Kill(j))
		}
	}
	for i := range s.N() {
		for r.Intn(4) == 0 {
			ok(t, s.Drop(i, r.Intn(s.Net().Size(i))))
		}
		if r.Intn(5) == 0 {
			s.Remove(state.Elim{Var: i, Best: []int{r.Intn(s.Net().Size(i)+1) - 1}})
		}
	}
	return s
}

// model is what is asked of a state, by the document's words alone.
type model struct {
	*state.State
}

func (m model) near(i int) []int {
	var l []int
	for j := range m.Funs() {
		if m.Live(j) && slices.Contains(m.Scope(j), i) {
			l = append(l, j)
		}
	}
	return l
}

func (m model) others(i int) []int {
	var l []int
	for o := range m.N() {
		if o != i && slices.ContainsFunc(m.near(i), func(j int) bool { return slices.Contains(m.Scope(j), o) }) {
			l = append(l, o)
		}
	}
	return l
}

func (m model) can(i, most int) api.Errno {
	if i < 0 || i >= m.N() || m.Gone(i) || most < 0 || most > 3 {
		return api.ErrArg
	}
	tuples := m.Net().Size(i)
	for _, o := range m.others(i) {
		tuples *= m.Net().Size(o)
	}
	if len(m.others(i)) > most || tuples > 4096 {
		return api.ErrDegree
	}
	return api.OK
}

// makes is what the value v of i makes cost, beside a tuple of its others.
func (m model) makes(i, v int, x []int) int64 {
	sum, _ := m.Unary(i, v)
	for _, j := range m.near(i) {
		var part []int
		for _, o := range m.Scope(j) {
			if o == i {
				part = append(part, v)
			} else {
				part = append(part, x[slices.Index(m.others(i), o)])
			}
		}
		c, _ := m.Cost(j, part)
		sum += c
	}
	return min(sum, m.K())
}

// out is the least cost that i makes beside a tuple of its others, and its best value.
func (m model) out(i int, x []int) (int64, int) {
	least, best := m.K(), -1
	for v := range m.Dom(i).Values() {
		if c := m.makes(i, v, x); best < 0 || c < least {
			least, best = c, v
		}
	}
	return least, best
}

func (m model) left(scope, x []int) bool {
	for p, i := range scope {
		if !m.Dom(i).Has(x[p]) {
			return false
		}
	}
	return true
}

// taken is what is to be told when i was taken out: of tuples with values that
// aren't left it is as it was.
func (m model) taken(t *testing.T, i int) told {
	t.Helper()
	w, scope := look(t, m.State), m.others(i)
	at := -1
	for j := range m.Funs() {
		if at < 0 && m.Live(j) && slices.Equal(m.Scope(j), scope) {
			at = j
		}
	}
	for _, j := range m.near(i) {
		w.live[j], w.costs[j] = false, nil
	}
	all := tuplesOf(m.State, scope)
	if len(scope) > 1 && at < 0 {
		at = len(w.live)
		w.live, w.scopes, w.costs = append(w.live, true), append(w.scopes, scope), append(w.costs, make([]int64, len(all)))
	}
	e := state.Elim{Var: i, Scope: scope}
	for n, x := range all {
		c, v := m.out(i, x)
		e.Best = append(e.Best, v)
		switch {
		case !m.left(scope, x):
		case len(scope) == 0:
			w.zero = min(w.zero+c, w.k)
		case len(scope) == 1:
			w.unary[scope[0]][x[0]] = min(w.unary[scope[0]][x[0]]+c, w.k)
		default:
			w.costs[at][n] = min(w.costs[at][n]+c, w.k)
		}
	}
	w.gone[i], w.elims = true, append(w.elims, e)
	w.vals, w.facts, w.near = m.valsWithout(t, i), nil, nil
	for o := range m.N() {
		var near []int
		for j, scope := range w.scopes {
			if w.live[j] && slices.Contains(scope, o) {
				near = append(near, j)
			}
		}
		w.near = append(w.near, near)
	}
	return w
}

// valsWithout are the least Vals over the values of i that are left.
func (m model) valsWithout(t *testing.T, i int) []int64 {
	t.Helper()
	var vals []int64
	for _, a := range tuplesOf(m.State, varsOf(m.State)) {
		least := m.K()
		for v := range m.Dom(i).Values() {
			a[i] = v
			c, e := m.Val(a)
			ok(t, e)
			least = min(least, c)
		}
		vals = append(vals, least)
	}
	return vals
}

// known tells of a state that one was taken out of no more than is asked for.
func known(t *testing.T, s *state.State, before told) told {
	t.Helper()
	w, m := look(t, s), model{s}
	for o := range w.unary {
		for v := range w.unary[o] {
			if !s.Dom(o).Has(v) {
				w.unary[o][v] = before.unary[o][v]
			}
		}
	}
	for j, costs := range w.costs {
		for n, x := range tuplesOf(s, s.Scope(j)) {
			if s.Live(j) && !m.left(s.Scope(j), x) {
				costs[n] = 0
				if j < len(before.costs) {
					costs[n] = before.costs[j][n]
				}
			}
		}
	}
	w.facts = nil
	return w
}

// try takes i out, if it can be, and holds that against what is to come of it.
func try(t *testing.T, s *state.State, i, most int) api.Errno {
	t.Helper()
	before, m := look(t, s), model{s}
	want := m.can(i, most)
	if e := elim.Can(s, i, most); e != want {
		t.Fatalf("Can(%d, %d): error %d, not %d, of\n%v", i, most, e, want, before)
	}
	if d := elim.Degree(s, i); d != len(m.others(i)) {
		t.Fatalf("Degree(%d): %d, of\n%v", i, d, before)
	}
	unchanged(t, s, before)
	if want != api.OK {
		if e := elim.Eliminate(s, i, most); e != want {
			t.Fatalf("Eliminate(%d, %d): error %d, not %d, of\n%v", i, most, e, want, before)
		}
		unchanged(t, s, before)
		return want
	}
	w := m.taken(t, i)
	ok(t, elim.Eliminate(s, i, most))
	got := known(t, s, before)
	last := len(w.elims) - 1
	for n, x := range tuplesOf(s, w.elims[last].Scope) {
		if !m.left(w.elims[last].Scope, x) {
			w.elims[last].Best[n] = got.elims[last].Best[n]
		}
	}
	if fmt.Sprint(got) != fmt.Sprint(w) { // so that nil and empty lists are the same
		t.Fatalf("Eliminate(%d, %d) of\n%v is\n%v, not\n%v", i, most, before, got, w)
	}
	return api.OK
}

// Each call is tried of each state, and undone.
func TestAllCalls(t *testing.T) {
	r := rand.New(rand.NewSource(20))
	var done [4]int
	for range 300 {
		s := someState(t, r)
		before := look(t, s)
		for i := -1; i <= s.N(); i++ {
			for most := -1; most <= 4; most++ {
				m := s.Mark()
				if d := elim.Degree(s, i); try(t, s, i, most) == api.OK {
					done[d]++
				}
				ok(t, s.Undo(m))
				unchanged(t, s, before)
			}
		}
	}
	if slices.Min(done[:]) < 10 {
		t.Errorf("so many of each degree were taken out: %v", done)
	}
}

// inTurn are those that All is to take out, one by one.
func inTurn(t *testing.T, s *state.State, most int) []int {
	t.Helper()
	var out []int
	for m := (model{s}); ; {
		next := -1
		for i := range s.N() {
			if m.can(i, most) == api.OK && (next < 0 || len(m.others(i)) < len(m.others(next))) {
				next = i
			}
		}
		if next < 0 {
			return out
		}
		out = append(out, next)
		ok(t, elim.Eliminate(s, next, most))
	}
}

func TestAllAsOneByOne(t *testing.T) {
	r := rand.New(rand.NewSource(21))
	some := 0
	for range 300 {
		s := someState(t, r)
		before := look(t, s)
		for most := range 4 {
			m := s.Mark()
			out, e := elim.All(s, most)
			ok(t, e)
			byAll := look(t, s)
			ok(t, s.Undo(m))
			unchanged(t, s, before)
			m = s.Mark()
			if want := inTurn(t, s, most); !slices.Equal(out, want) {
				t.Fatalf("All(%d): %v, not %v, of\n%v", most, out, want, before)
			}
			unchanged(t, s, byAll)
			again, e := elim.All(s, most)
			if len(again) > 0 || e != api.OK {
				t.Fatalf("All(%d) again: %v, error %d, of\n%v", most, again, e, before)
			}
			unchanged(t, s, byAll)
			ok(t, s.Undo(m))
			unchanged(t, s, before)
			if 0 < len(out) && len(out) < s.N() {
				some++
			}
		}
	}
	if some < 50 {
		t.Errorf("of %d states only some variables were taken out", some)
	}
}

// rebuilt is Rebuild, by the document's words.
func (m model) rebuilt(a []int) ([]int, api.Errno) {
	if len(a) != m.N() {
		return nil, api.ErrRange
	}
	for i := range m.N() {
		if !m.Gone(i) && !m.Dom(i).Has(a[i]) {
			return nil, api.ErrRange
		}
	}
	a = slices.Clone(a)
	elims := m.Elims()
	slices.Reverse(elims)
	for _, e := range elims {
		for n, x := range tuplesOf(m.State, e.Scope) {
			if slices.Equal(x, picked(a, e.Scope)) {
				a[e.Var] = e.Best[n]
			}
		}
		if a[e.Var] < 0 {
			return nil, api.ErrEmpty
		}
	}
	return a, api.OK
}

func picked(l, at []int) []int {
	var out []int
	for _, p := range at {
		out = append(out, l[p])
	}
	return out
}

// someMove changes no assignment's cost.
func someMove(r *rand.Rand, s *state.State) {
	i, j, pos, v, c := r.Intn(s.N()), r.Intn(s.Funs()+1), r.Intn(3), r.Intn(3), r.Int63n(3)
	switch r.Intn(4) {
	case 0:
		move.Project(s, j, pos, v, c)
	case 1:
		move.Extend(s, j, pos, v, c)
	case 2:
		move.Lower(s, i, c)
	case 3:
		move.Raise(s, i, c)
	}
}

// What is found again cost ahead of the first that went what is told now.
func TestFoundAgain(t *testing.T) {
	r := rand.New(rand.NewSource(22))
	seen := map[api.Errno]int{}
	for range 600 {
		s := someState(t, r)
		s.Mark()
		for range 1 + r.Intn(4) {
			for range r.Intn(9) {
				someMove(r, s)
			}
			elim.Eliminate(s, r.Intn(s.N()), r.Intn(4))
		}
		now := look(t, s)
		var whole [][]int
		for _, a := range tuplesOf(s, varsOf(s)) {
			want, wrong := model{s}.rebuilt(a)
			x, e := elim.Rebuild(s, a)
			if !slices.Equal(x, want) || e != wrong {
				t.Fatalf("Rebuild(%v): %v, error %d, not %v, of\n%v", a, x, e, want, now)
			}
			whole = append(whole, x)
			seen[e]++
		}
		unchanged(t, s, now)
		ok(t, s.Undo(0))
		for n, x := range whole {
			if c, e := s.Val(x); len(x) > 0 && (c != now.vals[n] || e != api.OK) {
				t.Fatalf("%v is found again: it costs %d, not %d, of\n%v", x, c, now.vals[n], now)
			}
		}
	}
	if len(seen) != 3 || seen[api.OK] < 1000 || seen[api.ErrEmpty] < 100 || seen[api.ErrRange] < 100 {
		t.Errorf("so many answers of each error: %v", seen)
	}
}

// Of all variables that can be taken out the least is left: it is the least of all.
func TestTheLeastIsLeft(t *testing.T) {
	r := rand.New(rand.NewSource(23))
	whole := 0
	for range 300 {
		s := someState(t, r)
		least := slices.Min(look(t, s).vals)
		_, e := elim.All(s, r.Intn(4))
		ok(t, e)
		now := look(t, s)
		if got := slices.Min(now.vals); got != least {
			t.Fatalf("the least is %d, not %d, of\n%v", got, least, now)
		}
		if !slices.Contains(now.gone, false) {
			whole++
			if s.Zero() != least {
				t.Fatalf("Zero is %d, not %d", s.Zero(), least)
			}
		}
	}
	if whole < 30 {
		t.Errorf("%d states were taken out whole", whole)
	}
}

// Several calls in a row, with a mark ahead of each, are undone from the last one on.
func TestUndoOfMany(t *testing.T) {
	r := rand.New(rand.NewSource(24))
	for range 60 {
		s := someState(t, r)
		var were []told
		for range s.N() + 1 {
			were = append(were, look(t, s))
			s.Mark()
			someMove(r, s)
			if r.Intn(3) == 0 {
				elim.All(s, r.Intn(3))
			} else {
				try(t, s, r.Intn(s.N()), r.Intn(4))
			}
		}
		for m := len(were) - 1; m >= 0; m -= 1 + r.Intn(2) {
			ok(t, s.Undo(m))
			unchanged(t, s, were[m])
		}
	}
}
