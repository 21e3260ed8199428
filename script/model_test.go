package script_test

import (
	"fmt"
	"math/rand"
	"reflect"
	"strings"
	"testing"

	"pennyweight/ac"
	"pennyweight/api"
	"pennyweight/dac"
	"pennyweight/dom"
	"pennyweight/edac"
	"pennyweight/elim"
	"pennyweight/move"
	"pennyweight/nc"
	"pennyweight/net"
	"pennyweight/script"
	"pennyweight/state"
	"pennyweight/wcsp"
)

func made(t *testing.T, text string) *state.State {
	t.Helper()
	f, at, e := wcsp.Read([]byte(strings.ReplaceAll(text, ",", "")))
	if e != api.OK {
		t.Fatalf("Read(%.99q): place %d, error %d", text, at, e)
	}
	n, e := net.Of(f)
	if e != api.OK {
		t.Fatalf("Of(%.99q): error %d", text, e)
	}
	return state.New(n)
}

// told is what a state tells.
type told struct {
	zero   int64
	doms   []dom.Set
	gone   []bool
	unary  [][]int64
	live   []bool
	scopes [][]int
	costs  [][]int64 // by the tuples' numbers
	near   [][]int
	elims  []state.Elim
	depth  int
	vals   []int64 // by the assignments' numbers
	facts  []int64
}

// tuplesOf are all of variables of some sizes.
func tuplesOf(sizes []int) [][]int {
	if len(sizes) == 0 {
		return [][]int{{}}
	}
	var all [][]int
	for v := range sizes[0] {
		for _, rest := range tuplesOf(sizes[1:]) {
			all = append(all, append([]int{v}, rest...))
		}
	}
	return all
}

func sizesOf(s *state.State, scope []int) []int {
	var sizes []int
	for _, i := range scope {
		sizes = append(sizes, s.Net().Size(i))
	}
	return sizes
}

func valsOf(s *state.State) []int64 {
	var vars []int
	for i := range s.N() {
		vars = append(vars, i)
	}
	var vals []int64
	for _, a := range tuplesOf(sizesOf(s, vars)) {
		c, _ := s.Val(a)
		vals = append(vals, c)
	}
	return vals
}

func look(s *state.State) told {
	l := told{zero: s.Zero(), elims: s.Elims(), depth: s.Depth(), vals: valsOf(s), facts: s.Facts()}
	for i := range s.N() {
		var costs []int64
		for v := range s.Net().Size(i) {
			c, _ := s.Unary(i, v)
			costs = append(costs, c)
		}
		l.doms, l.gone, l.unary, l.near = append(l.doms, s.Dom(i)), append(l.gone, s.Gone(i)), append(l.unary, costs), append(l.near, s.Near(i))
	}
	for j := range s.Funs() {
		var costs []int64
		for _, x := range tuplesOf(sizesOf(s, s.Scope(j))) {
			c, _ := s.Cost(j, x)
			costs = append(costs, c)
		}
		l.live, l.scopes, l.costs = append(l.live, s.Live(j)), append(l.scopes, s.Scope(j)), append(l.costs, costs)
	}
	return l
}

func unchanged(t *testing.T, s *state.State, before told) {
	t.Helper()
	if got := look(s); !reflect.DeepEqual(got, before) {
		t.Fatalf("told is\n%v, not\n%v", got, before)
	}
}

// direct is the very call of the layer that an operation is of.
func direct(s *state.State, o script.Op) api.Errno {
	levels := []func(*state.State) api.Errno{func(*state.State) api.Errno { return api.OK }, nc.Enforce, ac.Enforce, dac.Enforce, edac.Enforce}
	calls := map[int]func() api.Errno{
		0: func() api.Errno { return move.Project(s, o.A, o.B, o.C, o.Cost) },
		1: func() api.Errno { return move.Extend(s, o.A, o.B, o.C, o.Cost) },
		2: func() api.Errno { return move.Lower(s, o.A, o.Cost) },
		3: func() api.Errno { return move.Raise(s, o.A, o.Cost) },
		4: func() api.Errno { return move.Prune(s, o.A, o.B) },
		5: func() api.Errno { return move.Assign(s, o.A, o.B) },
		6: func() api.Errno {
			if o.A < 0 || o.A > 4 {
				return api.ErrArg
			}
			return levels[o.A](s)
		},
		7: func() api.Errno { return elim.Eliminate(s, o.A, o.B) },
		8: func() api.Errno {
			_, e := elim.All(s, o.A)
			return e
		},
		9: func() api.Errno {
			s.Mark()
			return api.OK
		},
		10: func() api.Errno { return s.Undo(o.A) },
	}
	if call := calls[o.Kind]; call != nil {
		return call()
	}
	return api.ErrArg
}

// safe is by the kinds' numbers, as the document counts them up.
func safe(o script.Op) bool { return 0 <= o.Kind && o.Kind <= 4 || o.Kind == 6 }

// wiping is whether an operation may change something though it isn't OK.
func wiping(o script.Op, e api.Errno) bool { return o.Kind == 6 && e == api.ErrEmpty }

// pair are two states of one network: one is told operations, the other one the very
// calls. It knows what stood at each mark that is open.
type pair struct {
	*testing.T
	s, twin *state.State
	marks   []told
	oks     [script.Kinds]int
	refused [script.Kinds]int
}

func pairOf(t *testing.T, text string) *pair {
	t.Helper()
	return &pair{T: t, s: made(t, text), twin: made(t, text)}
}

// do does one operation, and holds all that is promised of it against what is told
// ahead and behind.
func (p *pair) do(o script.Op) api.Errno {
	p.Helper()
	before := look(p.s)
	e, want := script.Do(p.s, o), direct(p.twin, o)
	if e != want {
		p.Fatalf("Do(%v): error %d, not %d", o, e, want)
	}
	behind := look(p.s)
	if !reflect.DeepEqual(behind, look(p.twin)) {
		p.Fatalf("behind Do(%v) is told\n%v, not\n%v", o, behind, look(p.twin))
	}
	if e != api.OK && !wiping(o, e) {
		unchanged(p.T, p.s, before)
	}
	if script.Safe(o) != safe(o) {
		p.Fatalf("Safe(%v): %v", o, script.Safe(o))
	}
	if safe(o) && !reflect.DeepEqual(behind.vals, before.vals) {
		p.Fatalf("behind Do(%v) the assignments cost\n%v, not\n%v", o, behind.vals, before.vals)
	}
	p.mark(o, e, before, behind)
	p.count(o, e)
	return e
}

// mark holds what marks bring back against what stood at them.
func (p *pair) mark(o script.Op, e api.Errno, before, behind told) {
	p.Helper()
	switch {
	case o.Kind == script.Mark:
		p.marks = append(p.marks, before)
	case o.Kind == script.Undo && e == api.OK:
		if !reflect.DeepEqual(behind, p.marks[o.A]) {
			p.Fatalf("behind Undo of %d is told\n%v, not\n%v", o.A, behind, p.marks[o.A])
		}
		p.marks = p.marks[:o.A]
	case o.Kind == script.Undo && 0 <= o.A && o.A < len(p.marks):
		p.Fatalf("Undo of %d: error %d", o.A, e)
	}
	if p.s.Depth() != len(p.marks) {
		p.Fatalf("behind Do(%v) %d marks are open, not %d", o, p.s.Depth(), len(p.marks))
	}
}

func (p *pair) count(o script.Op, e api.Errno) {
	switch {
	case o.Kind < 0 || o.Kind >= script.Kinds:
	case e == api.OK:
		p.oks[o.Kind]++
	default:
		p.refused[o.Kind]++
	}
}

// someText is of a network of few assignments, whose functions are of up to 4 variables.
func someText(r *rand.Rand) string {
	n, k := 1+r.Intn(5), []int64{1, 2, 9, 20, 300, api.MaxCost}[r.Intn(6)]
	var sizes []int
	for range n {
		sizes = append(sizes, 1+r.Intn(5)%3)
	}
	var funs strings.Builder
	count := r.Intn(2*n + 2)
	for range count {
		scope := r.Perm(n)[:min(n, []int{0, 1, 1, 2, 2, 2, 2, 3, 4}[r.Intn(9)])]
		fmt.Fprint(&funs, " ", len(scope))
		var of []int
		for _, i := range scope {
			fmt.Fprint(&funs, " ", i)
			of = append(of, sizes[i])
		}
		tuples := tuplesOf(of)
		fmt.Fprint(&funs, " 0 ", len(tuples))
		for _, x := range tuples {
			for _, v := range x {
				fmt.Fprint(&funs, " ", v)
			}
			fmt.Fprint(&funs, " ", []int64{0, 0, 0, 1, r.Int63n(5), r.Int63n(k + 1), k}[r.Intn(7)])
		}
	}
	text := fmt.Sprint("t ", n, " 3 ", count, " ", k)
	for _, size := range sizes {
		text += fmt.Sprint(" ", size)
	}
	return text + funs.String()
}

// someBytes are any, or mostly of operations of what there is, and of little costs.
func someBytes(r *rand.Rand, n int) []byte {
	p := make([]byte, n)
	r.Read(p)
	if r.Intn(4) == 0 {
		return p
	}
	for i := range p {
		switch kind := p[i] % script.Kinds; {
		case i%6 == 0 && (kind == script.Eliminate || kind == script.All || kind == script.Enforce) && r.Intn(4) > 0:
			p[i] = byte([]int{script.Project, script.Extend, script.Prune, script.Undo}[r.Intn(4)])
		case i%6 == 1 || i%6 == 2:
			p[i] %= 3
		case i%6 == 3:
			p[i] %= 2
		case i%6 == 4:
			p[i] %= 5
		case i%6 == 5:
			p[i] /= 128
		}
	}
	return p
}

// opsOf are those of some bytes, read by places alone.
func opsOf(p []byte) []script.Op {
	at := func(i int) int {
		if i < len(p) {
			return int(p[i])
		}
		return 0
	}
	var ops []script.Op
	for i := 0; i < len(p); i += 6 {
		ops = append(ops, script.Op{Kind: at(i) % 11, A: at(i+1) % 6, B: at(i+2) % 4, C: at(i+3) % 4, Cost: int64(at(i+5)<<8 | at(i+4))})
	}
	return ops
}
