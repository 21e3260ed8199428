package levels

import (
	"fmt"
	"math/rand"
	"slices"
	"strings"
	"testing"

	"pennyweight/api"
	"pennyweight/check"
	"pennyweight/state"
)

// bare is a state of n variables of so many values, of which nothing costs anything.
func bare(t *testing.T, n, size int, k int64) *state.State {
	t.Helper()
	return made(t, fmt.Sprint("t ", n, " ", size, " 0 ", k, strings.Repeat(fmt.Sprint(" ", size), n)))
}

// counted does steps to the end, and holds it against Enforce's.
func (l level) counted(t *testing.T, s *state.State, want api.Errno) {
	t.Helper()
	s.Mark()
	e := l.enforce(s)
	if is, _ := check.Is(s, l.number); e != want || is != (e == api.OK) {
		t.Fatalf("%s: error %d, not %d; of the level: %v", l.name, e, want, is)
	}
	ok(t, s.Undo(s.Depth()-1))
	for n := 0; ; n++ {
		changed, e := l.once(s)
		if n > most {
			t.Fatalf("%s: more than %d steps", l.name, n)
		}
		if changed && e == api.OK {
			continue
		}
		if is, _ := check.Is(s, l.number); changed || e != want || is != (e == api.OK) {
			t.Fatalf("%s: behind %d steps: %v, error %d, not %d; of the level: %v", l.name, n, changed, e, want, is)
		}
		return
	}
}

// What each variable gives to Zero makes values of the others cost too much.
func TestStepsOfManyVariables(t *testing.T) {
	for _, l := range all {
		s := bare(t, api.MaxVars, api.MaxDomain, 1000)
		for i := range s.N() {
			for v := range api.MaxDomain {
				ok(t, s.SetUnary(i, v, int64(1+i%7+v*30-v*i%29)))
			}
		}
		l.counted(t, s, api.OK)
		if left := s.Dom(0).Len(); left < 2 || left > 30 {
			t.Fatalf("%d values are left", left)
		}
		ok(t, s.SetZero(999))
		for v := range s.Dom(63).Values() {
			ok(t, s.SetUnary(63, v, 1))
		}
		l.counted(t, s, api.ErrEmpty)
	}
}

// Round a ring in which none may be less than the one behind it, and one must be,
// each value goes because another one went.
func TestStepsRoundARing(t *testing.T) {
	const n, size = 16, api.MaxDomain
	for _, back := range []bool{false, true} {
		s := bare(t, n, size, 1000)
		for i := range n - 1 {
			at := i
			if back {
				at = n - 2 - i
			}
			add(t, s, []int{at, at + 1}, func(x []int) int64 { return dear(x[0] > x[1]) })
		}
		add(t, s, []int{0, n - 1}, func(x []int) int64 { return dear(x[0] <= x[1]) })
		for _, l := range all[1:] {
			m := s.Mark()
			l.counted(t, s, api.ErrEmpty)
			ok(t, s.Undo(m))
		}
	}
}

// Of each four variables the first one loses a value by what Zero came to be; so
// what needs it of the two last ones costs 1 more; each lends it to one value of
// the second one; and so Zero comes to be greater, by which the first one of the
// next four loses a value.
func TestStepsOfManyRounds(t *testing.T) {
	const fours, size, k = api.MaxVars / 4, api.MaxDomain, 1000
	sizes := strings.Repeat(fmt.Sprint(" ", size, " 2 2 2"), fours)
	s := made(t, fmt.Sprint("t ", api.MaxVars, " ", size, " 0 ", k, sizes))
	for four := range fours {
		loses, lowered := 4*four, 4*four+1
		for v := range size - 1 {
			ok(t, s.SetUnary(loses, v, int64(k-v*fours-four)))
		}
		for v := range 2 {
			lends := lowered + 1 + v
			add(t, s, []int{loses, lends}, func(x []int) int64 { return int64(x[0] * (1 - x[1])) })
			add(t, s, []int{lowered, lends}, func(x []int) int64 { return dear((x[0] == v) != (x[1] == 0)) })
		}
	}
	for _, l := range all[2:] {
		m := s.Mark()
		l.counted(t, s, api.OK)
		if want := int64(fours * (size - 1)); s.Zero() != want {
			t.Errorf("%s: Zero %d, not %d", l.name, s.Zero(), want)
		}
		ok(t, s.Undo(m))
	}
}

// Each assignment of 0 to 3 costs c at least. But it can be gathered only by a cost
// of 1, which each time comes back to where it was: so it goes to Zero one by one.
// Each time values of the others go, too.
func TestStepsOfManyGatherings(t *testing.T) {
	const k, c = 1000, 900
	s := made(t, fmt.Sprint("t 64 32 7 ", k, strings.Repeat(" 3", 4), strings.Repeat(" 32", 60),
		" 1 1 0 1 1 ", c, " 1 2 0 1 2 ", c, " 1 3 0 2 1 ", c, " 2 ", c,
		" 2 0 3 0 1 2 0 ", k, " 2 1 2 0 2 0 0 ", k, " 0 1 1",
		" 2 1 3 0 2 2 0 ", k, " 2 2 ", k, " 2 2 3 0 2 1 0 ", k, " 1 1 ", k))
	for i := 4; i < s.N(); i++ {
		for v := range s.Net().Size(i) - 1 {
			ok(t, s.SetUnary(i, v, int64(k-1-v*29-i%29)))
		}
		if i%2 > 0 {
			add(t, s, []int{i - 1, i}, func(x []int) int64 { return dear(x[0] != x[1]) })
		}
	}
	for _, l := range all[3:] {
		m := s.Mark()
		l.counted(t, s, api.OK)
		if s.Zero() != c {
			t.Errorf("%s: Zero %d, not %d", l.name, s.Zero(), c)
		}
		ok(t, s.Undo(m))
	}
}

func dear(is bool) int64 {
	if is {
		return 1000
	}
	return 0
}

// The assignment of all noughts is free: so it is left, whatever the others cost.
func TestStepsOfManyFunctions(t *testing.T) {
	r := rand.New(rand.NewSource(17))
	for _, x := range []struct {
		size, arity, many int
		costOf            func() int64
	}{
		{api.MaxDomain, 2, 128, func() int64 { return 1 + r.Int63n(3) }},
		{api.MaxDomain, 2, 64, func() int64 { return r.Int63n(1001) }},
		{16, 3, 40, func() int64 { return 2 + r.Int63n(999)*r.Int63n(2) }},
		{4, api.MaxArity, 64, func() int64 { return 990 + r.Int63n(11) }},
	} {
		s := bare(t, api.MaxVars, x.size, 1000)
		for range x.many {
			scope := r.Perm(s.N())[:x.arity]
			slices.Sort(scope)
			if s.Find(scope) >= 0 {
				continue // of two of one scope not all levels are promised
			}
			add(t, s, scope, func(tuple []int) int64 {
				if slices.Max(tuple) == 0 {
					return 0
				}
				return x.costOf()
			})
		}
		for _, l := range all[1:] {
			m := s.Mark()
			l.counted(t, s, api.OK)
			ok(t, s.Undo(m))
		}
	}
}

// Of a top of 2^31 costs are counted to the last one.
func TestGreatTops(t *testing.T) {
	for _, l := range all[1:] {
		s := made(t, "t 2 2 3 2147483648 2 2, 0 5 0, 1 0 0 2 0 2147483643 1 1, 2 0 1 2147483640 1 0 0 2147483648")
		if e := l.enforce(s); e != api.OK || s.Zero() != 2147483646 {
			t.Errorf("%s: error %d, Zero %d", l.name, e, s.Zero())
		}
		s = made(t, "t 2 2 3 2147483648 2 2, 0 6 0, 1 0 1 2 0 2147483647 1 1, 2 0 1 2147483641 1 0 0 2147483648")
		if e := l.enforce(s); e != api.ErrEmpty {
			t.Errorf("%s: error %d, Zero %d", l.name, e, s.Zero())
		}
	}
}
