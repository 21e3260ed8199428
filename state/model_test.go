package state_test

import (
	"fmt"
	"math/rand"
	"slices"
	"testing"

	"pennyweight/api"
	"pennyweight/dom"
	"pennyweight/state"
	"pennyweight/table"
)

// modelFun has a cost of each tuple, by what is printed of it.
type modelFun struct {
	scope []int
	live  bool
	costs map[string]int64
}

// model is a state as plainly as can be: a mark is a copy of all.
type model struct {
	s     *state.State // asked for its network alone
	zero  int64
	left  [][]bool
	gone  []bool
	unary [][]int64
	funs  []modelFun
	elims []state.Elim
	marks []*model
}

func modelOf(s *state.State) *model {
	n := s.Net()
	m := &model{s: s, zero: n.Zero(), gone: make([]bool, n.N())}
	for i := range n.N() {
		m.left = append(m.left, slices.Repeat([]bool{true}, n.Size(i)))
		m.unary = append(m.unary, n.Unary(i))
	}
	for j := range n.Funs() {
		m.add(n.Scope(j), n.Table(j))
	}
	return m
}

func (m *model) copied() *model {
	c := &model{s: m.s, zero: m.zero, gone: slices.Clone(m.gone), elims: slices.Clone(m.elims), marks: slices.Clone(m.marks)}
	for i := range m.left {
		c.left = append(c.left, slices.Clone(m.left[i]))
		c.unary = append(c.unary, slices.Clone(m.unary[i]))
	}
	for _, f := range m.funs {
		costs := map[string]int64{}
		for x, cost := range f.costs {
			costs[x] = cost
		}
		c.funs = append(c.funs, modelFun{slices.Clone(f.scope), f.live, costs})
	}
	return c
}

func (m *model) add(scope []int, x *table.Table) {
	f := modelFun{slices.Clone(scope), true, map[string]int64{}}
	for at, tuple := range tuplesOf(m.s, scope) {
		f.costs[fmt.Sprint(tuple)] = x.Entries()[at]
	}
	m.funs = append(m.funs, f)
}

func (m *model) hasVar(i int) bool { return 0 <= i && i < len(m.left) }

func (m *model) hasValue(i, v int) bool { return m.hasVar(i) && 0 <= v && v < len(m.left[i]) }

func (m *model) liveFun(j int) bool { return 0 <= j && j < len(m.funs) && m.funs[j].live }

func (m *model) isCost(c int64) bool { return 0 <= c && c <= m.s.Net().K() }

func (m *model) isScope(scope []int) bool {
	for p, i := range scope {
		if !m.hasVar(i) || m.gone[i] || p > 0 && scope[p-1] >= i {
			return false
		}
	}
	return true
}

func (m *model) near(i int) []int {
	var l []int
	for j, f := range m.funs {
		if f.live && slices.Contains(f.scope, i) {
			l = append(l, j)
		}
	}
	return l
}

func (m *model) removable(e state.Elim) bool {
	if !m.hasVar(e.Var) || m.gone[e.Var] || len(m.near(e.Var)) > 0 || !m.isScope(e.Scope) || slices.Contains(e.Scope, e.Var) || len(e.Best) != len(tuplesOf(m.s, e.Scope)) {
		return false
	}
	for _, v := range e.Best {
		if v != -1 && !m.hasValue(e.Var, v) {
			return false
		}
	}
	return true
}

func (m *model) val(a []int) int64 {
	sum := m.zero
	for i, v := range a {
		if !m.gone[i] {
			if !m.left[i][v] {
				return m.s.Net().K()
			}
			sum += m.unary[i][v]
		}
	}
	for _, f := range m.funs {
		if f.live {
			sum += f.costs[fmt.Sprint(at(a, f.scope))]
		}
	}
	return min(sum, m.s.Net().K())
}

func at(a, scope []int) []int {
	l := []int{}
	for _, i := range scope {
		l = append(l, a[i])
	}
	return l
}

func (m *model) look(facts []int64) told {
	l := told{k: m.s.Net().K(), n: len(m.left), zero: m.zero, gone: m.gone, depth: len(m.marks), facts: facts}
	var vars []int
	for i, left := range m.left {
		vars = append(vars, i)
		d, _ := dom.New(len(left))
		for v, is := range left {
			if !is {
				d = d.Drop(v)
			}
		}
		l.doms, l.unary, l.near = append(l.doms, d), append(l.unary, m.unary[i]), append(l.near, m.near(i))
	}
	for _, f := range m.funs {
		var costs []int64
		for _, tuple := range tuplesOf(m.s, f.scope) {
			c := int64(0)
			if f.live {
				c = f.costs[fmt.Sprint(tuple)]
			}
			costs = append(costs, c)
		}
		first := slices.IndexFunc(m.funs, func(g modelFun) bool { return g.live && slices.Equal(g.scope, f.scope) })
		l.live, l.scopes, l.costs, l.find = append(l.live, f.live), append(l.scopes, f.scope), append(l.costs, costs), append(l.find, first)
	}
	l.elims = append(l.elims, m.elims...)
	for _, a := range tuplesOf(m.s, vars) {
		l.vals = append(l.vals, m.val(a))
	}
	return l
}

// essence is what Facts is to tell, printed.
func (m *model) essence() string {
	x := fmt.Sprint(m.zero, m.gone, m.left, m.elims)
	for i, costs := range m.unary {
		for v, c := range costs {
			if !m.gone[i] && m.left[i][v] {
				x += fmt.Sprint(" ", c)
			}
		}
	}
	for _, f := range m.funs {
		if !f.live {
			continue
		}
		x += fmt.Sprint("; ", f.scope)
		for _, tuple := range tuplesOf(m.s, f.scope) {
			all := true
			for p, i := range f.scope {
				all = all && m.left[i][tuple[p]]
			}
			if all {
				x += fmt.Sprint(" ", f.costs[fmt.Sprint(tuple)])
			}
		}
	}
	return x
}

// play does one call at random, of the state and of the model.
func play(t *testing.T, r *rand.Rand, s *state.State, m *model) (string, api.Errno, api.Errno) {
	t.Helper()
	i, v, j := r.Intn(s.N()+2)-1, r.Intn(5)-1, r.Intn(len(m.funs)+3)-1
	c := r.Int63n(s.K()+3) - 1
	switch kind := r.Intn(20); {
	case kind == 0:
		if !m.isCost(c) {
			return "SetZero", s.SetZero(c), api.ErrRange
		}
		m.zero = c
		return "SetZero", s.SetZero(c), api.OK
	case kind < 4:
		return "SetUnary", s.SetUnary(i, v, c), m.setUnary(i, v, c)
	case kind < 8:
		tuple := someTuple(r, s, j)
		return "SetCost", s.SetCost(j, tuple, c), m.setCost(j, tuple, c)
	case kind < 10:
		if !m.hasValue(i, v) {
			return "Drop", s.Drop(i, v), api.ErrArg
		}
		m.left[i][v] = false
		return "Drop", s.Drop(i, v), api.OK
	case kind < 12:
		return playAdd(t, r, s, m)
	case kind == 12:
		if !m.liveFun(j) {
			return "Kill", s.Kill(j), api.ErrArg
		}
		m.funs[j].live = false
		return "Kill", s.Kill(j), api.OK
	case kind == 13:
		e := someElim(r, s)
		if !m.removable(e) {
			return "Remove", s.Remove(e), api.ErrArg
		}
		m.gone[e.Var], m.elims = true, append(m.elims, e)
		return "Remove", s.Remove(e), api.OK
	case kind < 17:
		m.marks = append(m.marks, m.copied())
		s.Mark()
		return "Mark", api.OK, api.OK
	}
	to := r.Intn(len(m.marks)+3) - 1
	if to < 0 || to >= len(m.marks) {
		return "Undo", s.Undo(to), api.ErrNone
	}
	marks := m.marks[:to]
	*m = *m.marks[to]
	m.marks = marks
	return "Undo", s.Undo(to), api.OK
}

func (m *model) setUnary(i, v int, c int64) api.Errno {
	if !m.hasValue(i, v) {
		return api.ErrArg
	}
	if !m.isCost(c) {
		return api.ErrRange
	}
	m.unary[i][v] = c
	return api.OK
}

func (m *model) setCost(j int, tuple []int, c int64) api.Errno {
	if !m.liveFun(j) {
		return api.ErrArg
	}
	if _, is := m.funs[j].costs[fmt.Sprint(tuple)]; !is {
		return api.ErrArg
	}
	if !m.isCost(c) {
		return api.ErrRange
	}
	m.funs[j].costs[fmt.Sprint(tuple)] = c
	return api.OK
}

// someTuple is of the function j's scope, but not always one that there is.
func someTuple(r *rand.Rand, s *state.State, j int) []int {
	var tuple []int
	for _, i := range s.Scope(j) {
		tuple = append(tuple, r.Intn(s.Net().Size(i)))
	}
	if len(tuple) > 0 && r.Intn(9) == 0 {
		tuple[r.Intn(len(tuple))] += r.Intn(5) - 2
	}
	if r.Intn(30) == 0 {
		tuple = append(tuple, 0)
	}
	return tuple
}

func someScope(r *rand.Rand, s *state.State, most int) []int {
	var scope []int
	for i := range s.N() {
		if len(scope) < most && r.Intn(2) == 0 {
			scope = append(scope, i)
		}
	}
	if len(scope) > 0 && r.Intn(20) == 0 {
		scope[r.Intn(len(scope))] += r.Intn(5) - 2
	}
	return scope
}

func someElim(r *rand.Rand, s *state.State) state.Elim {
	e := state.Elim{Var: r.Intn(s.N()+2) - 1, Scope: someScope(r, s, 2)}
	for range len(tuplesOf(s, e.Scope)) + max(r.Intn(9)-7, 0) {
		e.Best = append(e.Best, r.Intn(max(s.Net().Size(e.Var), 1)+1)-1)
	}
	if len(e.Best) > 0 && r.Intn(9) == 0 {
		e.Best[r.Intn(len(e.Best))] += r.Intn(3) - 1
	}
	return e
}

func playAdd(t *testing.T, r *rand.Rand, s *state.State, m *model) (string, api.Errno, api.Errno) {
	t.Helper()
	scope := someScope(r, s, 3)
	var sizes []int
	for _, i := range scope {
		sizes = append(sizes, max(s.Net().Size(i), 1))
	}
	x := fill(t, s.K(), 0, sizes...)
	for _, tuple := range x.Shape().All() {
		ok(t, x.Put(tuple, r.Int63n(s.K()+1)))
	}
	want, n := api.OK, len(m.funs)
	if len(scope) < 2 || !m.isScope(scope) {
		want, n = api.ErrArg, 0
	} else {
		m.add(scope, x)
	}
	j, e := s.Add(scope, x)
	if j != n {
		t.Errorf("Add(%v): %d, not %d", scope, j, n)
	}
	return "Add", e, want
}

// Facts are held against those of all others of the network, too.
func TestAgainstAModel(t *testing.T) {
	for seed, text := range []string{
		three,
		"t 1 1 0 1 1",
		"t 2 2 2 1 2 1, 2 0 1 0 1 0 0 1, 1 0 0 1 1 1",
		"t 3 2 1 2 2 1 2, 3 2 1 0 1 2 0 0 0 0 1 0 1 2",
		"t 4 3 3 2147483648 1 3 2 2, 2 3 1 5 1 0 0 0, 2 2 3 1000000000 0, 1 2 7 1 0 2147483648",
	} {
		r := rand.New(rand.NewSource(int64(seed)))
		facts, essences := map[string]string{}, map[string]string{}
		for round := range 200 {
			s := made(t, text)
			m := modelOf(s)
			for range round / 2 {
				what, e, want := play(t, r, s, m)
				if e != want {
					t.Fatalf("%s of %s: error %d, not %d", what, text, e, want)
				}
				alike(t, what, look(t, s), m.look(s.Facts()))
				f, x := fmt.Sprint(s.Facts()), m.essence()
				if had, is := facts[x]; is && had != f {
					t.Fatalf("%s: the facts %s, and %s", x, f, had)
				}
				if had, is := essences[f]; is && had != x {
					t.Fatalf("the facts %s: of %s, and of %s", f, x, had)
				}
				facts[x], essences[f] = f, x
			}
		}
	}
}
