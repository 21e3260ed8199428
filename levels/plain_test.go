package levels

import (
	"math/rand"
	"slices"
	"testing"

	"pennyweight/ac"
	"pennyweight/api"
	"pennyweight/dom"
	"pennyweight/nc"
	"pennyweight/state"
)

// part is of what is told what a plain model foretells: the costs are those of
// the values that are left.
type part struct {
	zero  int64
	doms  []dom.Set
	unary [][]int64
}

func (w told) part() part {
	p := part{zero: w.zero, doms: w.doms}
	for i, d := range w.doms {
		var costs []int64
		for v := range d.Values() {
			costs = append(costs, w.unary[i][v])
		}
		p.unary = append(p.unary, costs)
	}
	return p
}

func (p part) equals(o part) bool {
	return p.zero == o.zero && slices.Equal(p.doms, o.doms) && slices.EqualFunc(p.unary, o.unary, slices.Equal[[]int64])
}

// drop drops the values that are so; was there one?
func (w *told) drop(so func(i, v int) bool) bool {
	was := false
	for i := range w.doms {
		for v := range w.doms[i].Values() {
			if !w.gone[i] && so(i, v) {
				w.doms[i] = w.doms[i].Drop(v)
				was = true
			}
		}
	}
	return was
}

// lower takes from each variable what each of its values costs; was there any?
func (w *told) lower() bool {
	was := false
	for i, d := range w.doms {
		c := w.least(i)
		if w.gone[i] || c == 0 {
			continue
		}
		was = true
		w.zero = min(w.zero+c, w.k)
		for v := range d.Values() {
			w.unary[i][v] -= c
		}
	}
	return was
}

// plainNode does what NC asks for till nothing is asked for, or a variable is wiped.
func (w *told) plainNode() {
	for !w.wiped() {
		dear := w.drop(func(i, v int) bool { return w.zero+w.unary[i][v] >= w.k })
		if w.wiped() || !w.lower() && !dear {
			return
		}
	}
}

// Whatever the order of its moves is, NC comes to one end.
func TestPlainNode(t *testing.T) {
	someStates(t, all[0], 1500, func(_ *rand.Rand, s *state.State) {
		before, want := look(t, s), look(t, s)
		want.plainNode()
		m := s.Mark()
		for _, enforce := range []func(s *state.State) api.Errno{nc.Enforce, steps(nc.Once)} {
			e := enforce(s)
			if got := look(t, s); e == api.OK && !got.part().equals(want.part()) || (e == api.OK) == want.wiped() {
				t.Fatalf("error %d, told is\n%v, not\n%v, behind\n%v", e, got, want, before)
			}
			ok(t, s.Undo(m))
			s.Mark()
		}
	})
}

func steps(once func(s *state.State) (bool, api.Errno)) func(s *state.State) api.Errno {
	return func(s *state.State) api.Errno {
		for {
			if changed, e := once(s); !changed {
				return e
			}
		}
	}
}

// plainArc does what AC asks for where K is 1: what costs anything can't be.
func (w *told) plainArc(s *state.State) {
	for !w.wiped() {
		if !w.drop(func(i, v int) bool { return w.zero+w.unary[i][v] > 0 || !w.borne(s, i, v) }) {
			return
		}
	}
}

// borne asks whether v has a free tuple in each live function of i.
func (w *told) borne(s *state.State, i, v int) bool {
	for j, scope := range w.scopes {
		if pos := slices.Index(scope, i); pos >= 0 && w.live[j] && !w.free(s, j, pos, v) {
			return false
		}
	}
	return true
}

func TestPlainArcOfTop1(t *testing.T) {
	seen := map[bool]int{}
	someStates(t, all[1], 6000, func(_ *rand.Rand, s *state.State) {
		if s.K() != 1 {
			return
		}
		before, want := look(t, s), look(t, s)
		want.plainArc(s)
		m := s.Mark()
		for _, enforce := range []func(s *state.State) api.Errno{ac.Enforce, steps(ac.Once)} {
			e := enforce(s)
			if got := look(t, s); e == api.OK && !got.part().equals(want.part()) || (e == api.OK) == want.wiped() {
				t.Fatalf("error %d, told is\n%v, not\n%v, behind\n%v", e, got, want, before)
			}
			ok(t, s.Undo(m))
			s.Mark()
		}
		if before.wiped() || want.part().equals(before.part()) {
			return
		}
		seen[want.wiped()]++
	})
	if min(seen[true], seen[false]) < 50 {
		t.Errorf("so many were wiped, and not: %v", seen)
	}
}
