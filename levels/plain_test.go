package levels

import (
	"math/rand"
	"slices"
	"testing"

	"pennyweight/api"
	"pennyweight/dom"
	"pennyweight/nc"
	"pennyweight/state"
)

// part is of what is told what a plain model foretells: the costs are those of
// the values that are left.
type part struct {
	zero  int64
	doms  []dom.Set
	unary [][]int64
}

func (w told) part() part {
	p := part{zero: w.zero, doms: w.doms}
	for i, d := range w.doms {
		var costs []int64
		for v := range d.Values() {
			costs = append(costs, w.unary[i][v])
		}
		p.unary = append(p.unary, costs)
	}
	return p
}

func (p part) equals(o part) bool {
	return p.zero == o.zero && slices.Equal(p.doms, o.doms) && slices.EqualFunc(p.unary, o.unary, slices.Equal[[]int64])
}

// drop drops the values that are so; was there one?
func (w *told) drop(so func(i, v int) bool) bool {
	was := false
	for i := range w.doms {
		for v := range w.doms[i].Values() {
			if !w.gone[i] && so(i, v) {
				w.doms[i] = w.doms[i].Drop(v)
				was = true
			}
		}
	}
	return was
}

// lower takes from each variable what each of its values costs; was there any?
func (w *told) lower() bool {
	was := false
	for i, d := range w.doms {
		c := w.least(i)
		if w.gone[i] || c == 0 {
			continue
		}
		was = true
		w.zero = min(w.zero+c, w.k)
		for v := range d.Values() {
			w.unary[i][v] -= c
		}
	}
	return was
}

// plainNode does what NC asks for till nothing is asked for, or a variable is wiped.
func (w *told) plainNode() {
	for !w.wiped() {
		dear := w.drop(func(i, v int) bool { return w.zero+w.unary[i][v] >= w.k })
		if w.wiped() || !w.lower() && !dear {
			return
		}
	}
}

// Whatever the order of its moves is, NC comes to one end.
func TestPlainNode(t *testing.T) {
	someStates(t, all[0], 1500, func(_ *rand.Rand, s *state.State) {
		before, want := look(t, s), look(t, s)
		want.plainNode()
		m := s.Mark()
		for _, enforce := range []func(s *state.State) api.Errno{nc.Enforce, steps(nc.Once)} {
			e := enforce(s)
			if got := look(t, s); e == api.OK && !got.part().equals(want.part()) || (e == api.OK) == want.wiped() {
				t.Fatalf("error %d, told is\n%v, not\n%v, behind\n%v", e, got, want, before)
			}
			ok(t, s.Undo(m))
			s.Mark()
		}
	})
}

func steps(once func(s *state.State) (bool, api.Errno)) func(s *state.State) api.Errno {
	return func(s *state.State) api.Errno {
		for {
			if changed, e := once(s); !changed {
				return e
			}
		}
	}
}

// plainArc does what AC asks for where K is 1: what costs anything can't be.
func (w *told) plainArc(s *state.State) {
	for !w.wiped() {
		if !w.drop(func(i, v int) bool { return w.zero+w.unary[i][v] > 0 || !w.borne(s, i, v) }) {
			return
		}
	}
}

// borne asks whether v has a free tuple in each live function of i.
func (w *told) borne(s *state.State, i, v int) bool {
	for j, scope := range w.scopes {
		if pos := slices.Index(scope, i); pos >= 0 && w.live[j] && !w.free(s, j, pos, v) {
			return false
		}
	}
	return true
}

// A value that is left is as good as any other there, so that AC is all that the
// greater levels ask, too.
func TestPlainArcOfTop1(t *testing.T) {
	for _, l := range all[1:] {
		seen := map[bool]int{}
		someStates(t, l, 6000, func(_ *rand.Rand, s *state.State) {
			if s.K() == 1 {
				l.plainlyOfTop1(t, s, seen)
			}
		})
		if min(seen[true], seen[false]) < 50 {
			t.Errorf("%s: so many were wiped, and not: %v", l.name, seen)
		}
	}
}

func (l level) plainlyOfTop1(t *testing.T, s *state.State, seen map[bool]int) {
	t.Helper()
	before, want := look(t, s), look(t, s)
	want.plainArc(s)
	for _, enforce := range []func(s *state.State) api.Errno{l.enforce, steps(l.once)} {
		m := s.Mark()
		e := enforce(s)
		if got := look(t, s); e == api.OK && !got.part().equals(want.part()) || (e == api.OK) == want.wiped() {
			t.Fatalf("%s: error %d, told is\n%v, not\n%v, behind\n%v", l.name, e, got, want, before)
		}
		ok(t, s.Undo(m))
	}
	if !before.wiped() && !want.part().equals(before.part()) {
		seen[want.wiped()]++
	}
}

// someJoined has costs of each kind, where it has any, and functions of two variables:
// of each one and its mate, if that is another one.
func someJoined(t *testing.T, r *rand.Rand, mate func(n, i int) int) *state.State {
	t.Helper()
	n, size := 2+r.Intn(5), 1+r.Intn(3)
	k := []int64{1, 7, 12, 20, 1000, top}[r.Intn(6)]
	s, many := bare(t, n, size, k), 1+r.Intn(3)
	costOf := func([]int) int64 { return min(someCost(r, min(k, 9), many), k) }
	if r.Intn(6) == 0 {
		costOf = func([]int) int64 { return someCost(r, k, many) }
	}
	for i := range n {
		for v := range size {
			ok(t, s.SetUnary(i, v, costOf(nil)))
		}
		if o := mate(n, i); o != i && r.Intn(9) > 0 {
			add(t, s, []int{min(i, o), max(i, o)}, costOf)
		}
	}
	return s
}

// someTree has of each variable at most one function with a lower one.
func someTree(t *testing.T, r *rand.Rand) *state.State {
	return someJoined(t, r, func(_, i int) int { return r.Intn(max(i, 1)) })
}

// someStar has functions of one variable, whichever, and each other one.
func someStar(t *testing.T, r *rand.Rand) *state.State {
	at := r.Intn(6)
	return someJoined(t, r, func(n, _ int) int { return at % n })
}

// leastOf holds Zero against the least of all assignments.
func (l level) leastOf(t *testing.T, r *rand.Rand, some func(*testing.T, *rand.Rand) *state.State) {
	t.Helper()
	seen := map[bool]int{}
	for range 3000 {
		s := some(t, r)
		before := look(t, s)
		least := slices.Min(before.vals)
		for _, enforce := range []func(s *state.State) api.Errno{l.enforce, steps(l.once)} {
			m := s.Mark()
			e := enforce(s)
			if (e == api.OK) != (least < s.K()) || e == api.OK && s.Zero() != least {
				t.Fatalf("%s: error %d, Zero %d, not %d, of\n%v", l.name, e, s.Zero(), least, before)
			}
			ok(t, s.Undo(m))
		}
		seen[least < s.K()]++
	}
	if min(seen[true], seen[false]) < 300 {
		t.Errorf("%s: so many can be, and not: %v", l.name, seen)
	}
}

// In a tree a value that costs nothing has one of each higher variable that costs
// nothing with it, and so on: so Zero is the least of all assignments.
func TestLeastOfTrees(t *testing.T) {
	r := rand.New(rand.NewSource(18))
	for _, l := range all[2:] {
		l.leastOf(t, r, someTree)
	}
}

// So has, in a star, the value in the midst that is free with all.
func TestLeastOfStars(t *testing.T) {
	r := rand.New(rand.NewSource(19))
	for _, l := range all[3:] {
		l.leastOf(t, r, someStar)
	}
}
