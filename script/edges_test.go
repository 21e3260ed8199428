package script_test

import (
	"fmt"
	"math"
	"math/rand"
	"slices"
	"strings"
	"testing"

	"pennyweight/api"
	"pennyweight/check"
	"pennyweight/script"
	"pennyweight/state"
)

// small has the functions 0 of 0, 1 and 1 of 1, 2; Zero is 2.
const small = "t 3 3 6 9, 2 3 2, 0 2 0, 1 0 3 1 1 4, 1 1 0 1 2 9, 1 2 0 1 0 1," +
	" 2 0 1 2 1 0 1 9, 2 1 2 0 2 1 0 5 1 1 6"

// each has a value for each level, that Enforce of it makes the state be of and of no other.
const each = "t 3 2 3 9, 2 2 2, 1 2 1 1 0 3, 2 0 2 0 1 1 1 9, 2 1 2 0 3 0 1 9 1 0 1 1 1 2"

type step struct {
	o    script.Op
	want api.Errno
}

var far = []int{-1, math.MinInt, math.MaxInt, 1 << 32, -1 << 32}

var farCosts = []int64{-1, math.MinInt64, math.MaxInt64, 1 << 32, -1 << 32}

// uses is which of A, B, C and Cost a kind asks for.
var uses = [script.Kinds][4]bool{
	script.Project:   {true, true, true, true},
	script.Extend:    {true, true, true, true},
	script.Lower:     {true, false, false, true},
	script.Raise:     {true, false, false, true},
	script.Prune:     {true, true, false, false},
	script.Assign:    {true, true, false, false},
	script.Enforce:   {true, false, false, false},
	script.Eliminate: {true, true, false, false},
	script.All:       {true, false, false, false},
	script.Mark:      {},
	script.Undo:      {true, false, false, false},
}

// wild is an operation with anything where nothing is asked for.
func wild(o script.Op, n int) script.Op {
	if o.Kind < 0 || o.Kind >= script.Kinds {
		return o
	}
	asked := uses[o.Kind]
	if !asked[0] {
		o.A = far[n]
	}
	if !asked[1] {
		o.B = far[n]
	}
	if !asked[2] {
		o.C = far[n]
	}
	if !asked[3] {
		o.Cost = farCosts[n]
	}
	return o
}

// alone does each step on states of its own, that were prepared; with anything in the
// fields that aren't asked for, too.
func alone(t *testing.T, text string, ahead []script.Op, steps ...step) {
	t.Helper()
	for _, x := range steps {
		for n := -1; n < len(far); n++ {
			o, p := x.o, pairOf(t, text)
			if n >= 0 {
				o = wild(o, n)
			}
			for _, first := range ahead {
				if e := p.do(first); e != api.OK && !wiping(first, e) {
					t.Fatalf("ahead: Do(%v): error %d", first, e)
				}
			}
			if e := p.do(o); e != x.want {
				t.Fatalf("Do(%v): error %d, not %d", o, e, x.want)
			}
		}
	}
}

func project(j, pos, v int, c int64) script.Op {
	return script.Op{Kind: script.Project, A: j, B: pos, C: v, Cost: c}
}

func extend(j, pos, v int, c int64) script.Op {
	return script.Op{Kind: script.Extend, A: j, B: pos, C: v, Cost: c}
}

func lower(i int, c int64) script.Op { return script.Op{Kind: script.Lower, A: i, Cost: c} }

func raise(i int, c int64) script.Op { return script.Op{Kind: script.Raise, A: i, Cost: c} }

func prune(i, v int) script.Op { return script.Op{Kind: script.Prune, A: i, B: v} }

func assign(i, v int) script.Op { return script.Op{Kind: script.Assign, A: i, B: v} }

func enforce(level int) script.Op { return script.Op{Kind: script.Enforce, A: level} }

func eliminate(i, most int) script.Op { return script.Op{Kind: script.Eliminate, A: i, B: most} }

func all(most int) script.Op { return script.Op{Kind: script.All, A: most} }

func mark() script.Op { return script.Op{Kind: script.Mark} }

func undo(m int) script.Op { return script.Op{Kind: script.Undo, A: m} }

func TestNil(t *testing.T) {
	kinds := slices.Clone(otherKinds)
	for kind := range script.Kinds {
		kinds = append(kinds, kind)
	}
	for _, kind := range kinds {
		for _, n := range append(far, 0, 1, 4, 5) {
			o := script.Op{Kind: kind, A: n, B: n, C: n, Cost: int64(n)}
			if e := script.Do(nil, o); e != api.ErrNone {
				t.Errorf("Do(nil, %v): error %d", o, e)
			}
		}
	}
}

func TestOtherKinds(t *testing.T) {
	p := pairOf(t, small)
	for _, kind := range otherKinds {
		for _, n := range append(far, 0, 1) {
			if e := p.do(script.Op{Kind: kind, A: n, B: n, C: n, Cost: int64(n)}); e != api.ErrArg {
				t.Errorf("Do of the kind %d: error %d", kind, e)
			}
		}
	}
}

func TestProjectExtend(t *testing.T) {
	alone(t, small, nil,
		step{project(0, 0, 0, 0), api.OK},
		step{project(0, 0, 0, 2), api.OK},
		step{project(0, 0, 0, 3), api.ErrIllegal},
		step{project(0, 0, 0, 9), api.ErrIllegal},
		step{project(0, 0, 0, 10), api.ErrRange},
		step{project(0, 0, 1, 2), api.OK},
		step{project(0, 1, 0, 2), api.OK},
		step{project(0, 1, 2, 2), api.OK},
		step{project(1, 0, 0, 0), api.OK},
		step{project(1, 0, 0, 1), api.ErrIllegal},
		step{project(1, 1, 1, 0), api.OK},
		step{project(0, 0, 2, 2), api.ErrArg},
		step{project(0, 1, 3, 2), api.ErrArg},
		step{project(0, 2, 0, 2), api.ErrArg},
		step{project(2, 0, 0, 0), api.ErrArg},
		step{project(0, 0, 2, 10), api.ErrArg},
		step{extend(0, 0, 0, 3), api.OK},
		step{extend(0, 0, 0, 4), api.ErrIllegal},
		step{extend(0, 0, 1, 4), api.OK},
		step{extend(0, 1, 0, 0), api.OK},
		step{extend(0, 1, 0, 1), api.ErrIllegal},
		step{extend(0, 1, 2, 9), api.OK},
		step{extend(0, 1, 2, 10), api.ErrRange},
		step{extend(1, 0, 2, 9), api.OK},
		step{extend(1, 1, 0, 1), api.OK},
		step{extend(1, 1, 1, 1), api.ErrIllegal},
		step{extend(0, 0, 2, 0), api.ErrArg},
		step{extend(0, 1, 3, 0), api.ErrArg},
		step{extend(0, 2, 0, 0), api.ErrArg},
		step{extend(2, 0, 0, 0), api.ErrArg},
		step{extend(2, 0, 0, -1), api.ErrArg},
	)
	for _, make := range []func(j, pos, v int, c int64) script.Op{project, extend} {
		for _, n := range far {
			alone(t, small, nil, step{make(n, 0, 0, 0), api.ErrArg}, step{make(0, n, 0, 0), api.ErrArg}, step{make(0, 0, n, 0), api.ErrArg})
		}
		for _, c := range farCosts {
			alone(t, small, nil, step{make(0, 0, 0, c), api.ErrRange}, step{make(2, 0, 0, c), api.ErrArg})
		}
	}
}

func TestLowerRaise(t *testing.T) {
	alone(t, small, nil,
		step{lower(0, 0), api.OK},
		step{lower(0, 3), api.OK},
		step{lower(0, 4), api.ErrIllegal},
		step{lower(0, 9), api.ErrIllegal},
		step{lower(0, 10), api.ErrRange},
		step{lower(2, 0), api.OK},
		step{lower(2, 1), api.ErrIllegal},
		step{lower(3, 0), api.ErrArg},
		step{raise(0, 0), api.OK},
		step{raise(0, 2), api.OK},
		step{raise(0, 3), api.ErrIllegal},
		step{raise(2, 2), api.OK},
		step{raise(2, 9), api.ErrIllegal},
		step{raise(2, 10), api.ErrRange},
		step{raise(3, 0), api.ErrArg},
		step{raise(3, 10), api.ErrArg},
	)
	for _, make := range []func(i int, c int64) script.Op{lower, raise} {
		for _, n := range far {
			alone(t, small, nil, step{make(n, 0), api.ErrArg})
		}
		for _, c := range farCosts {
			alone(t, small, nil, step{make(1, c), api.ErrRange}, step{make(3, c), api.ErrArg})
		}
	}
}

func TestPruneAssign(t *testing.T) {
	alone(t, small, nil,
		step{prune(1, 2), api.OK}, // it costs 9
		step{prune(1, 0), api.ErrIllegal},
		step{prune(0, 1), api.ErrIllegal},
		step{prune(1, 3), api.ErrArg},
		step{prune(0, 2), api.ErrArg},
		step{prune(3, 0), api.ErrArg},
		step{assign(1, 2), api.OK},
		step{assign(1, 0), api.OK},
		step{assign(0, 1), api.OK},
		step{assign(1, 3), api.ErrArg},
		step{assign(0, 2), api.ErrArg},
		step{assign(3, 0), api.ErrArg},
	)
	alone(t, small, []script.Op{prune(1, 2)}, step{prune(1, 2), api.ErrArg}, step{assign(1, 2), api.ErrArg}, step{project(0, 1, 2, 0), api.ErrArg})
	for _, n := range far {
		alone(t, small, nil, step{prune(n, 0), api.ErrArg}, step{prune(1, n), api.ErrArg}, step{assign(n, 0), api.ErrArg}, step{assign(1, n), api.ErrArg})
	}
}

func TestEnforce(t *testing.T) {
	for level := range 5 {
		alone(t, each, nil, step{enforce(level), api.OK})
		p := pairOf(t, each)
		before := look(p.s)
		if e := p.do(enforce(level)); e != api.OK || check.Of(p.s) != level {
			t.Fatalf("behind Enforce of %d: error %d, level %d", level, e, check.Of(p.s))
		}
		if level == 0 {
			unchanged(t, p.s, before)
		}
	}
	alone(t, each, nil, step{enforce(5), api.ErrArg}, step{enforce(6), api.ErrArg})
	for _, n := range far {
		alone(t, each, nil, step{enforce(n), api.ErrArg})
	}
}

func TestEliminateAll(t *testing.T) {
	alone(t, small, nil,
		step{eliminate(0, 0), api.ErrDegree},
		step{eliminate(0, 1), api.OK},
		step{eliminate(0, 3), api.OK},
		step{eliminate(0, 4), api.ErrArg},
		step{eliminate(1, 1), api.ErrDegree},
		step{eliminate(1, 2), api.OK},
		step{eliminate(2, 1), api.OK},
		step{eliminate(3, 1), api.ErrArg},
		step{eliminate(3, 4), api.ErrArg},
		step{all(0), api.OK},
		step{all(1), api.OK},
		step{all(3), api.OK},
		step{all(4), api.ErrArg},
	)
	for _, n := range far {
		alone(t, small, nil, step{eliminate(n, 1), api.ErrArg}, step{eliminate(0, n), api.ErrArg}, step{all(n), api.ErrArg})
	}
	for most, gone := range []int{0, 3, 3, 3} {
		p := pairOf(t, small)
		if e := p.do(all(most)); e != api.OK || len(p.s.Elims()) != gone {
			t.Fatalf("All up to %d: error %d, %d are gone", most, e, len(p.s.Elims()))
		}
	}
}

// TestEliminateMost has a variable of three neighbours, and of as many tuples as there
// may be, or more.
func TestEliminateMost(t *testing.T) {
	for size, want := range map[int]api.Errno{8: api.OK, 9: api.ErrDegree} {
		text := fmt.Sprint("t 4 9 3 20", strings.Repeat(fmt.Sprint(" ", size), 4), " 2 0 1 1 0 2 0 2 2 0 2 0 3 3 0")
		s := made(t, text)
		was := s.Facts()
		if e := script.Do(s, eliminate(0, 3)); e != want {
			t.Fatalf("of the size %d: error %d", size, e)
		}
		if s.Gone(0) != (want == api.OK) || slices.Equal(s.Facts(), was) != (want != api.OK) {
			t.Fatalf("of the size %d: %v", size, s.Elims())
		}
	}
}

func TestMarkUndo(t *testing.T) {
	alone(t, small, nil, step{mark(), api.OK}, step{undo(0), api.ErrNone}, step{undo(1), api.ErrNone})
	ahead := []script.Op{lower(0, 1), mark(), prune(1, 2), mark(), mark()}
	alone(t, small, ahead,
		step{undo(0), api.OK},
		step{undo(1), api.OK},
		step{undo(2), api.OK},
		step{undo(3), api.ErrNone},
	)
	for _, n := range far {
		alone(t, small, nil, step{undo(n), api.ErrNone})
		alone(t, small, ahead, step{undo(n), api.ErrNone})
	}
	alone(t, small, append(ahead, undo(1)), step{undo(1), api.ErrNone}, step{undo(2), api.ErrNone}, step{undo(0), api.OK})
	alone(t, small, append(ahead, undo(0)), step{undo(0), api.ErrNone}, step{mark(), api.OK})
	alone(t, small, append(ahead, undo(0), mark()), step{undo(0), api.OK}, step{undo(1), api.ErrNone})
}

// TestUndoEach has one operation of each kind behind a mark.
func TestUndoEach(t *testing.T) {
	for _, o := range []script.Op{project(0, 0, 0, 2), extend(0, 0, 0, 3), lower(0, 3), raise(1, 2), prune(1, 2), assign(1, 1), enforce(1), enforce(2), enforce(3), enforce(4), eliminate(1, 2), all(1), mark()} {
		p := pairOf(t, small)
		before := look(p.s)
		for _, x := range []script.Op{mark(), o} {
			if e := p.do(x); e != api.OK {
				t.Fatalf("Do(%v): error %d", x, e)
			}
		}
		if slices.Equal(p.s.Facts(), before.facts) && o.Kind != script.Mark {
			t.Fatalf("Do(%v) changed nothing", o)
		}
		if e := p.do(undo(0)); e != api.OK {
			t.Fatal(e)
		}
		unchanged(t, p.s, before)
	}
}

func TestGone(t *testing.T) {
	alone(t, small, []script.Op{eliminate(0, 1)}, // the function 0 is killed
		step{project(0, 0, 0, 0), api.ErrArg},
		step{extend(0, 1, 0, 0), api.ErrArg},
		step{project(1, 0, 0, 0), api.OK},
		step{lower(0, 0), api.ErrArg},
		step{raise(0, 0), api.ErrArg},
		step{prune(0, 0), api.ErrArg},
		step{assign(0, 0), api.ErrArg},
		step{eliminate(0, 1), api.ErrArg},
		step{eliminate(1, 1), api.OK},
		step{enforce(4), api.OK},
	)
	alone(t, small, []script.Op{eliminate(1, 2)}, // a new function, of 0, 2
		step{project(0, 0, 0, 0), api.ErrArg},
		step{project(1, 0, 0, 0), api.ErrArg},
		step{project(2, 0, 0, 0), api.OK},
		step{project(2, 1, 1, 0), api.OK},
		step{project(3, 0, 0, 0), api.ErrArg},
		step{eliminate(0, 0), api.ErrDegree},
		step{all(3), api.OK},
	)
	alone(t, small, []script.Op{all(3)},
		step{project(0, 0, 0, 0), api.ErrArg},
		step{lower(1, 0), api.ErrArg},
		step{eliminate(1, 3), api.ErrArg},
		step{all(3), api.OK},
		step{all(4), api.ErrArg},
		step{enforce(4), api.OK},
		step{enforce(5), api.ErrArg},
	)
}

// TestTop has a state whose Zero is the top.
func TestTop(t *testing.T) {
	text := "t 2 2 2 9, 2 2, 0 9 0, 2 0 1 1 1 0 0 3"
	alone(t, text, nil,
		step{project(0, 0, 0, 1), api.OK},
		step{project(0, 0, 0, 2), api.ErrIllegal},
		step{extend(0, 0, 0, 0), api.OK},
		step{lower(0, 0), api.OK},
		step{raise(0, 9), api.OK},
		step{raise(0, 10), api.ErrRange},
		step{prune(0, 1), api.OK},
		step{assign(0, 1), api.OK},
		step{enforce(0), api.OK},
		step{enforce(1), api.ErrEmpty},
		step{enforce(2), api.ErrEmpty},
		step{enforce(3), api.ErrEmpty},
		step{enforce(4), api.ErrEmpty},
		step{eliminate(0, 1), api.OK},
		step{all(1), api.OK},
	)
	alone(t, text, []script.Op{all(1)}, step{enforce(1), api.OK}, step{enforce(4), api.OK})
	for level := 1; level <= 4; level++ {
		p := pairOf(t, text)
		p.do(mark())
		p.do(enforce(level))
		if p.s.Dom(0).Len() > 0 && p.s.Dom(1).Len() > 0 {
			t.Fatalf("behind Enforce of %d all have values", level)
		}
		if e := p.do(undo(0)); e != api.OK {
			t.Fatal(e)
		}
	}
}

// TestNone has a variable without a value.
func TestNone(t *testing.T) {
	text := "t 2 2 2 9, 2 1, 0 9 0, 2 0 1 0 1 0 0 3"
	alone(t, text, []script.Op{prune(1, 0)},
		step{project(0, 1, 0, 0), api.ErrArg},
		step{project(0, 0, 0, 9), api.OK},
		step{lower(1, 0), api.ErrIllegal},
		step{raise(1, 0), api.ErrIllegal},
		step{lower(0, 0), api.OK},
		step{prune(1, 0), api.ErrArg},
		step{assign(1, 0), api.ErrArg},
		step{enforce(0), api.OK},
		step{enforce(4), api.ErrEmpty},
		step{eliminate(1, 1), api.OK},
		step{all(1), api.OK},
	)
}

// TestWild does operations of any fields, in a row.
func TestWild(t *testing.T) {
	r := rand.New(rand.NewSource(5))
	ints := append(slices.Clone(far), 0, 0, 0, 1, 1, 1, 2, 2, 3, 4, 5)
	for range 60 {
		p := pairOf(t, someText(r))
		k := p.s.K()
		costs := append(slices.Clone(farCosts), 0, 0, 0, 1, 1, k-1, k, k+1, r.Int63n(k+1))
		for range 100 {
			p.do(script.Op{
				Kind: r.Intn(script.Kinds+2) - 1,
				A:    ints[r.Intn(len(ints))],
				B:    ints[r.Intn(len(ints))],
				C:    ints[r.Intn(len(ints))],
				Cost: costs[r.Intn(len(costs))],
			})
		}
	}
}

// TestHandedOn has a state that others worked on, with two functions of one scope.
func TestHandedOn(t *testing.T) {
	change := func(s *state.State) {
		costs := s.Net().Table(0)
		for _, e := range []api.Errno{s.SetZero(0), s.SetUnary(0, 1, 9), s.Drop(1, 1)} {
			if e != api.OK {
				t.Fatal(e)
			}
		}
		if _, e := s.Add([]int{0, 1}, costs); e != api.OK {
			t.Fatal(e)
		}
		s.Mark()
	}
	p := pairOf(t, small)
	change(p.s)
	change(p.twin)
	p.marks = []told{look(p.s)}
	p.marks[0].depth = 0
	for _, x := range []step{{project(2, 0, 0, 2), api.OK}, {prune(0, 1), api.OK}, {assign(1, 1), api.ErrArg}, {enforce(2), api.OK}, {eliminate(0, 1), api.OK}, {undo(0), api.OK}} {
		if e := p.do(x.o); e != x.want {
			t.Fatalf("Do(%v): error %d, not %d", x.o, e, x.want)
		}
	}
}
