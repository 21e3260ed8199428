package levels

import (
	"math/rand"
	"reflect"
	"slices"
	"testing"

	"pennyweight/ac"
	"pennyweight/api"
	"pennyweight/check"
	"pennyweight/dac"
	"pennyweight/edac"
	"pennyweight/nc"
	"pennyweight/state"
)

// level is what makes a state be of one.
type level struct {
	name    string
	number  int
	enforce func(s *state.State) api.Errno
	once    func(s *state.State) (bool, api.Errno)
}

var all = []level{
	{"nc", check.NC, nc.Enforce, nc.Once},
	{"ac", check.AC, ac.Enforce, ac.Once},
	{"dac", check.FDAC, dac.Enforce, dac.Once},
	{"edac", check.EDAC, edac.Enforce, edac.Once},
}

// most is how many steps there may be at tops of at most 1000; at others there may be more.
const most = 30000

// meets asks whether s is of the level.
func (l level) meets(w told, s *state.State) bool {
	return w.node() && (l.number < check.AC || w.arc(s)) &&
		(l.number < check.FDAC || w.directed(s)) && (l.number < check.EDAC || w.existential(s))
}

// keeps holds what was against what is: whatever was done was done by moves of the level.
func (l level) keeps(t *testing.T, before, now told) {
	t.Helper()
	switch {
	case now.zero < before.zero:
		t.Fatalf("%s: Zero fell: told is\n%v, behind\n%v", l.name, now, before)
	case !slices.Equal(now.vals, before.vals):
		t.Fatalf("%s: the assignments cost other than they did: told is\n%v, behind\n%v", l.name, now, before)
	}
	// What no move of the level changes.
	same := now
	same.zero, same.vals, same.facts = before.zero, before.vals, before.facts
	same.doms, same.unary, same.costs = before.doms, before.unary, before.costs
	if !reflect.DeepEqual(same, before) {
		t.Fatalf("%s: told is\n%v, behind\n%v", l.name, now, before)
	}
	for i, d := range now.doms {
		for v := range d.Size() {
			lost := before.doms[i].Has(v) && !d.Has(v)
			stays := before.gone[i] || !before.doms[i].Has(v)
			if d.Has(v) && !before.doms[i].Has(v) || stays && (lost || now.unary[i][v] != before.unary[i][v]) {
				t.Fatalf("%s: the value %d of %d: told is\n%v, behind\n%v", l.name, v, i, now, before)
			}
		}
	}
}

// keepsTuples asks of the functions what keeps does of the variables.
func (l level) keepsTuples(t *testing.T, s *state.State, before, now told) {
	t.Helper()
	for j, costs := range now.costs {
		for n, x := range tuplesOf(s, now.scopes[j]) {
			if !now.live[j] || costs[n] == before.costs[j][n] {
				continue
			}
			fixed := l.number < check.AC || !before.left(now.scopes[j], x)
			// By lending alone a tuple comes to cost more.
			if fixed || costs[n] > before.costs[j][n] && (l.number < check.FDAC || len(x) != 2) {
				t.Fatalf("%s: the tuple %v of the function %d: told is\n%v, behind\n%v", l.name, x, j, now, before)
			}
		}
	}
}

// ends holds a state that no more is to be done to against what it was.
func (l level) ends(t *testing.T, s *state.State, before, now told, e api.Errno) {
	t.Helper()
	is, wrong := check.Is(s, l.number)
	ok(t, wrong)
	switch {
	case e == api.OK && !(is && l.meets(now, s)):
		t.Fatalf("%s: not of the level: told is\n%v, behind\n%v", l.name, now, before)
	case e == api.ErrEmpty && !now.wiped():
		t.Fatalf("%s: each variable has a value: told is\n%v, behind\n%v", l.name, now, before)
	case e == api.ErrEmpty && slices.Min(before.vals) < before.k:
		t.Fatalf("%s: error %d, of\n%v", l.name, e, before)
	case e != api.OK && e != api.ErrEmpty:
		t.Fatalf("%s: error %d, of\n%v", l.name, e, before)
	}
	if again := l.enforce(s); again != e {
		t.Fatalf("%s: Enforce again: error %d, not %d, of\n%v", l.name, again, e, now)
	}
	if changed, again := l.once(s); changed || again != e {
		t.Fatalf("%s: Once behind the end: %v, error %d, not %d, of\n%v", l.name, changed, again, e, now)
	}
	unchanged(t, s, now)
}

// try enforces the level, and holds it against what is promised.
func (l level) try(t *testing.T, s *state.State) api.Errno {
	t.Helper()
	before := look(t, s)
	e := l.enforce(s)
	now := look(t, s)
	l.keeps(t, before, now)
	l.keepsTuples(t, s, before, now)
	l.ends(t, s, before, now, e)
	if before.wiped() && e != api.ErrEmpty || l.meets(before, s) && e != api.OK {
		t.Fatalf("%s: error %d, of\n%v", l.name, e, before)
	}
	if before.wiped() || l.meets(before, s) {
		unchanged(t, s, before)
	}
	return e
}

// undone tries it twice: to undo it, and to let it stand.
func (l level) undone(t *testing.T, s *state.State) api.Errno {
	t.Helper()
	before, m := look(t, s), s.Mark()
	e := l.try(t, s)
	behind := look(t, s)
	ok(t, s.Undo(m))
	unchanged(t, s, before)
	again := l.enforce(s)
	if got := look(t, s); again != e || !slices.Equal(got.facts, behind.facts) {
		t.Fatalf("%s: done again: error %d, told is\n%v, not\n%v", l.name, again, got, behind)
	}
	return e
}

// kinds are what a state may be of ahead, and what may come of it.
type kinds struct {
	already, enforced, beyond, wipedAhead, wiped, full int
}

// beyond asks whether there is something left to do where s is of the level ahead.
func (l level) beyond(t *testing.T, s *state.State) bool {
	t.Helper()
	m, e := s.Mark(), api.OK
	if l.number > check.NC {
		e = all[l.number-2].enforce(s)
	}
	is, _ := check.Is(s, l.number)
	ok(t, s.Undo(m))
	return e == api.OK && !is
}

func (k *kinds) count(l level, before told, s *state.State, beyond bool, e api.Errno) {
	if beyond {
		k.beyond++
	}
	switch {
	case before.wiped():
		k.wipedAhead++
	case l.meets(before, s):
		k.already++
	case e == api.OK:
		k.enforced++
	default:
		k.wiped++
	}
	if before.zero == before.k {
		k.full++
	}
}

func (k kinds) enough(t *testing.T, l level, least int) {
	t.Helper()
	if min(k.already, k.enforced, k.beyond, k.wipedAhead, k.wiped, k.full) < least {
		t.Errorf("%s: so many states of each kind: %+v", l.name, k)
	}
}

func someStates(t *testing.T, l level, many int, each func(r *rand.Rand, s *state.State)) {
	t.Helper()
	r := rand.New(rand.NewSource(int64(l.number)))
	for range many {
		s := someState(t, r)
		if r.Intn(3) == 0 {
			s = somePairs(t, r)
		}
		if l.number == check.EDAC && r.Intn(2) == 0 {
			s = someWeb(t, r) // of the others hardly one is FDAC, but not EDAC
		}
		if r.Intn(2) == 0 {
			play(t, r, s)
		}
		if l.number >= check.FDAC {
			single(t, s) // of others nothing is promised there
		}
		each(r, s)
	}
}

func TestEnforce(t *testing.T) {
	for _, l := range all {
		var seen kinds
		someStates(t, l, 3000, func(_ *rand.Rand, s *state.State) {
			before, beyond := look(t, s), l.beyond(t, s)
			seen.count(l, before, s, beyond, l.undone(t, s))
		})
		seen.enough(t, l, 40)
	}
}

// step does one, and holds it against what is promised of it.
func (l level) step(t *testing.T, s *state.State) (bool, api.Errno) {
	t.Helper()
	before := look(t, s)
	changed, e := l.once(s)
	now := look(t, s)
	l.keeps(t, before, now)
	l.keepsTuples(t, s, before, now)
	switch {
	case changed && (e != api.OK || now.wiped() || slices.Equal(now.facts, before.facts)):
		t.Fatalf("%s: Once: true, error %d: told is\n%v, behind\n%v", l.name, e, now, before)
	case changed:
		l.whole(t, s, before, now)
	case e == api.OK || before.wiped():
		unchanged(t, s, before)
	}
	return changed, e
}

// whole asks whether what was moved was as much as could be: who was lowered has
// a cost that is 0, and the functions whose costs changed are settled.
func (l level) whole(t *testing.T, s *state.State, before, now told) {
	t.Helper()
	for i := range now.doms {
		for v := range now.doms[i].Values() {
			fell := now.unary[i][v] < before.unary[i][v] && (l.number < check.FDAC || now.zero > before.zero)
			if fell && now.least(i) > 0 {
				t.Fatalf("%s: %d could be lowered by more: told is\n%v, behind\n%v", l.name, i, now, before)
			}
		}
	}
	for j, costs := range now.costs {
		if !slices.Equal(costs, before.costs[j]) && !now.settled(s, j, before.lentTo(s, now, j)) {
			t.Fatalf("%s: of %d too much was moved, or too little: told is\n%v, behind\n%v", l.name, j, now, before)
		}
	}
}

// lentTo is the place in the function j that a step lent to, or -1: the lower one's,
// but where these have what they need already.
func (w told) lentTo(s *state.State, now told, j int) int {
	switch {
	case !w.node() || !w.arc(s):
		return -1
	case !w.directed(s):
		return 0
	}
	return slices.IndexFunc(w.scopes[j], func(i int) bool {
		return slices.ContainsFunc(valuesOf(w.doms[i]), func(v int) bool { return now.unary[i][v] > w.unary[i][v] })
	})
}

// settled asks whether each value of the function j has a free tuple, those at the
// place that was lent to by one that costs nothing itself. Where a value costs the
// top already, it may not be so till it goes.
func (w told) settled(s *state.State, j, to int) bool {
	all := true
	for pos, i := range w.scopes[j] {
		for v := range w.doms[i].Values() {
			if w.unary[i][v] == w.k {
				return true
			}
			all = all && w.free(s, j, pos, v) && (pos != to || w.full(s, j, pos, v))
		}
	}
	return all
}

// steps goes on till there is nothing more to do, with a mark ahead of each step.
func (l level) steps(t *testing.T, s *state.State) api.Errno {
	t.Helper()
	first := look(t, s)
	var were []told
	for {
		were = append(were, look(t, s))
		s.Mark()
		changed, e := l.step(t, s)
		if len(were) > most && s.K() <= 1000 {
			t.Fatalf("%s: it doesn't come to its end, of\n%v", l.name, first)
		}
		if changed {
			continue
		}
		l.ends(t, s, first, look(t, s), e)
		for m := len(were) - 1; m >= 0; m-- {
			ok(t, s.Undo(were[m].depth))
			unchanged(t, s, were[m])
		}
		return e
	}
}

func TestOnce(t *testing.T) {
	for _, l := range all {
		var seen kinds
		someStates(t, l, 1500, func(_ *rand.Rand, s *state.State) {
			before, beyond := look(t, s), l.beyond(t, s)
			seen.count(l, before, s, beyond, l.steps(t, s))
		})
		seen.enough(t, l, 20)
	}
}

// Of states two of whose functions have the same scope no more is promised of
// these levels than that the calls end.
func TestOneScope(t *testing.T) {
	r := rand.New(rand.NewSource(2))
	for _, l := range all[2:] {
		for range 1000 {
			s := somePairs(t, r)
			for j := range s.Funs() {
				if scope := s.Scope(j); r.Intn(2) == 0 {
					add(t, s, scope, func([]int) int64 { return someCost(r, min(s.K(), 9), 2) })
				}
			}
			m := s.Mark()
			if e := l.enforce(s); e != api.OK && e != api.ErrEmpty {
				t.Fatalf("%s: error %d", l.name, e)
			}
			ok(t, s.Undo(m))
			if e := steps(l.once)(s); e != api.OK && e != api.ErrEmpty {
				t.Fatalf("%s: Once: error %d", l.name, e)
			}
		}
	}
}
