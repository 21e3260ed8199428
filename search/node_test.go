package search

import (
	"fmt"
	"math/rand"
	"slices"
	"strings"
	"testing"

	"pennyweight/api"
	"pennyweight/check"
	"pennyweight/elim"
	"pennyweight/move"
	"pennyweight/net"
	"pennyweight/ratio"
	"pennyweight/soft"
	"pennyweight/state"
	"pennyweight/table"
	"pennyweight/wcsp"
)

func made(t *testing.T, text string) *net.Net {
	t.Helper()
	f, at, e := wcsp.Read([]byte(strings.ReplaceAll(text, ",", "")))
	if e != api.OK {
		t.Fatalf("Read(%.99q): place %d, error %d", text, at, e)
	}
	n, e := net.Of(f)
	if e != api.OK {
		t.Fatalf("Of(%.99q): error %d", text, e)
	}
	return n
}

// someNet has functions of two and three variables, mostly of little costs.
func someNet(t *testing.T, r *rand.Rand) *net.Net {
	t.Helper()
	n := 4 + r.Intn(3)
	funs := n + r.Intn(3*n)
	k := []int64{12, 30, 1000}[r.Intn(3)]
	text := fmt.Sprint("t ", n, " 3 ", funs, " ", k)
	for range n {
		text += fmt.Sprint(" ", 2+r.Intn(2))
	}
	for range funs {
		scope := r.Perm(n)[:2+r.Intn(5)/4]
		text += fmt.Sprint(" ", len(scope))
		for _, i := range scope {
			text += fmt.Sprint(" ", i)
		}
		text += fmt.Sprint(" ", r.Intn(3), " 4")
		for v := range 4 {
			text += fmt.Sprint(" ", v/2, " ", v%2)
			if len(scope) == 3 {
				text += fmt.Sprint(" ", r.Intn(2))
			}
			text += fmt.Sprint(" ", r.Intn(8))
		}
	}
	return made(t, text)
}

func eachOption() []Options {
	var all []Options
	for i := range 5 * 5 * 3 * 2 * 2 {
		all = append(all, Options{Level: i % 5, Degree: i/5%5 - 1, Order: i / 25 % 3, Value: i / 75 % 2, Split: i/150 > 0, Budget: 999})
	}
	return all
}

// chosen are the variables that have more than one value left.
func (r *run) chosen() []int {
	var vars []int
	for i := range r.N() {
		if !r.Gone(i) && r.Dom(i).Len() > 1 {
			vars = append(vars, i)
		}
	}
	return vars
}

// leastWith is the least Val of an assignment of values that are left, of which i has
// just v, or just not v.
func (r *run) leastWith(i, v int, others bool) int64 {
	least := r.K()
	a := make([]int, r.N())
	var from func(at int)
	from = func(at int) {
		if at == r.N() {
			c, _ := r.Val(a)
			least = min(least, c)
			return
		}
		if r.Gone(at) {
			from(at + 1)
			return
		}
		for w := range r.Dom(at).Values() {
			if at == i && (w == v) == others {
				continue
			}
			a[at] = w
			from(at + 1)
		}
	}
	from(0)
	return least
}

// urgent asks whether i is the one that is to be parted.
func (r *run) urgent(i int) bool {
	key := func(i int) float64 {
		size := r.Dom(i).Len()
		switch r.Order {
		case ByDomain:
			return float64(size)
		case ByWeight:
			return ratio.Ratio(size, r.weights.Sum(r.Near(i)))
		}
		return float64(i)
	}
	for _, other := range r.chosen() {
		if c := ratio.Cmp(key(other), key(i)); c < 0 || c == 0 && other < i {
			return false
		}
	}
	return slices.Contains(r.chosen(), i)
}

// order are i's values that are left, as they are to be tried.
func (r *run) order(i int) []int {
	l := slices.Collect(r.Dom(i).Values())
	if r.Value == Cheapest {
		unary := func(v int) int64 {
			c, _ := r.Unary(i, v)
			return c
		}
		slices.SortStableFunc(l, func(a, b int) int { return int(unary(a) - unary(b)) })
	}
	return l
}

// holds holds the state of a node that was parted, and the parts, against what the
// options say.
func (r *run) holds(t *testing.T, parts []task) {
	t.Helper()
	if is, _ := check.Is(r.State, r.Level); !is {
		t.Fatalf("%+v: not of the level, but of %d", r.Options, check.Of(r.State))
	}
	for i := range r.N() {
		if elim.Can(r.State, i, r.Degree) == api.OK {
			t.Fatalf("%+v: %d can be taken out", r.Options, i)
		}
	}
	if r.Degree < 0 && len(r.Elims()) > 0 {
		t.Fatalf("%+v: %v were taken out", r.Options, r.Elims())
	}
	i := parts[0].variable
	if !r.urgent(i) {
		t.Fatalf("%+v: %d is parted", r.Options, i)
	}
	order := r.order(i)
	for at, p := range parts {
		switch least := r.leastWith(i, p.value, p.others); {
		case p.depth != r.Depth() || p.variable != i:
			t.Fatalf("%+v: parts %+v", r.Options, parts)
		case r.Split && (p.value != order[0] || p.others != (at > 0)):
			t.Fatalf("%+v: parts %+v of %v", r.Options, parts, order)
		case !r.Split && (p.value != order[at] || p.others):
			t.Fatalf("%+v: parts %+v of %v", r.Options, parts, order)
		case p.low > least:
			t.Fatalf("%+v: %+v, but the least is %d", r.Options, p, least)
		}
	}
	if many := len(order); r.Split && len(parts) != 2 || !r.Split && len(parts) != many {
		t.Fatalf("%+v: parts %+v of %v", r.Options, parts, order)
	}
}

// Of each node: of the level, with nobody left that can be taken out, and parted as
// the options say.
func TestNodes(t *testing.T) {
	random := rand.New(rand.NewSource(1))
	parted := map[Options]int{}
	for range 200 {
		n := someNet(t, random)
		for _, o := range eachOption() {
			if random.Intn(9) > 0 {
				continue
			}
			r := begin(n, o)
			for len(r.tasks) > 0 {
				next := take(&r.tasks)
				r.visit(next)
				if i := r.next(); len(r.tasks) > 0 && r.tasks[len(r.tasks)-1].depth == r.Depth() {
					r.holds(t, r.parts(i))
					parted[o]++
				}
				for _, x := range r.tasks {
					if x.low >= r.cost || x.low < next.low && x.depth == r.Depth() {
						t.Fatalf("%+v: behind %+v, at a cost of %d: %+v", o, next, r.cost, x)
					}
				}
			}
		}
	}
	degrees := map[int]int{}
	for _, o := range eachOption() {
		degrees[o.Degree] += parted[o]
		// By taking out as many as can be mostly all is done.
		if parted[o] < 3 && o.Degree < 2 {
			t.Errorf("%+v: only %d nodes were parted", o, parted[o])
		}
	}
	for d := -1; d <= api.MaxDegree; d++ {
		if degrees[d] < 50 {
			t.Errorf("degree %d: only %d nodes were parted", d, degrees[d])
		}
	}
}

// Whatever is done to a node but what is dropped: each assignment that is left costs
// in the network, when those that went are found again, what it costs in the state.
func TestReduce(t *testing.T) {
	random := rand.New(rand.NewSource(2))
	for range 400 {
		n, o := someNet(t, random), eachOption()[random.Intn(300)]
		r := begin(n, o)
		for range 1 + random.Intn(4) {
			if len(r.tasks) == 0 {
				break
			}
			r.enter(take(&r.tasks))
			if !r.reduce() {
				continue
			}
			r.same(t)
			if bound, _ := soft.Bound(r.State); bound != r.Zero() {
				t.Fatalf("%+v: Zero is %d, the bound %d", o, r.Zero(), bound)
			}
			r.branch()
		}
	}
}

func (r *run) same(t *testing.T) {
	t.Helper()
	a := make([]int, r.N())
	for range 20 {
		for i := range a {
			if values := slices.Collect(r.Dom(i).Values()); len(values) > 0 {
				a[i] = values[rand.Intn(len(values))]
			}
		}
		c, _ := r.Val(a)
		whole, e := elim.Rebuild(r.State, a)
		was, _ := r.Net().Val(whole)
		if e != api.OK || was != c {
			t.Fatalf("%+v: %v costs %d, but %v %d (error %d)", r.Options, a, c, whole, was, e)
		}
	}
}

// A part that is left again leaves nothing behind.
func TestEnter(t *testing.T) {
	random := rand.New(rand.NewSource(3))
	entered := 0
	for range 300 {
		r := begin(someNet(t, random), eachOption()[random.Intn(300)])
		r.visit(take(&r.tasks))
		i := r.next()
		if i < 0 {
			continue
		}
		facts, values := r.Facts(), slices.Collect(r.Dom(i).Values())
		for _, part := range r.parts(i) {
			r.enter(part)
			isIn := func(v int) bool { return (v == part.value) == part.others }
			if want := slices.DeleteFunc(slices.Clone(values), isIn); !slices.Equal(slices.Collect(r.Dom(i).Values()), want) {
				t.Fatalf("%+v: %v is left, not %v", part, r.Dom(i), want)
			}
			r.reduce()
			entered++
			if part.others {
				break // nobody comes back to what was ahead of it
			}
			if e := r.Undo(part.depth); e != api.OK || !slices.Equal(r.Facts(), facts) {
				t.Fatalf("%+v: error %d, %v, not %v", part, e, r.Facts(), facts)
			}
		}
	}
	if entered < 100 {
		t.Errorf("only %d parts", entered)
	}
}

func TestNext(t *testing.T) {
	text := "t 5 4 3 99, 1 4 3 2 2, 2 1 2 0 1, 0 0 1, 2 1 3 0 1, 0 0 1, 2 2 3 0 1, 0 0 1"
	for order, want := range []int{1, 3, 2} {
		r := begin(made(t, text), Options{Order: order})
		if order == ByWeight {
			// By weights of 1: 4 by 2, 3 by 2, 2 by 2, 2 by 0.
			if i := r.next(); i != 3 {
				t.Fatalf("of weights of 1: %d", i)
			}
			j := r.Find([]int{1, 2})
			r.blame([]int{j, j, j})
			// 4 by 5, 3 by 5, 2 by 2, 2 by 0.
		}
		if i := r.next(); i != want {
			t.Errorf("order %d: %d, not %d", order, i, want)
		}
		for i := range r.N() {
			for r.Dom(i).Len() > 1 {
				if i := r.next(); r.Gone(i) || r.Dom(i).Len() < 2 {
					t.Fatalf("order %d: %d has no choice", order, i)
				}
				r.Drop(i, r.Dom(i).Last())
			}
		}
		if i := r.next(); i != -1 {
			t.Errorf("order %d: %d has no choice", order, i)
		}
	}
	r := begin(made(t, text), Options{})
	if e := r.Remove(state.Elim{Var: 4, Best: []int{0}}); e != api.OK || r.next() != 1 {
		t.Fatalf("error %d, %d", e, r.next())
	}
	for i := range 4 {
		move.Assign(r.State, i, 0)
	}
	if i := r.next(); i != -1 {
		t.Errorf("%d is gone", i)
	}
}

// The functions of a variable weigh more when one of its values came to nothing,
// those that were killed on the way, too.
func TestWeights(t *testing.T) {
	weigh := func(r *run, when string, want ...float64) {
		t.Helper()
		for j, w := range want {
			if got := r.weights.Of(j); got != w {
				t.Errorf("%s: the function of %v weighs %v, not %v", when, r.Scope(j), got, w)
			}
		}
	}
	r := begin(made(t, "t 3 2 3 99, 2 2 2, 2 0 1 0 2, 0 0 5, 1 0 6, 2 0 2 0 1, 1 1 1, 2 1 2 0 1, 0 0 1"), Options{Degree: -1, Order: ByWeight})
	weigh(r, "at first", 1, 1, 1)
	r.cost = 0
	r.visit(whole)
	weigh(r, "of no variable", 1, 1, 1)
	r.cost = 5
	r.visit(task{variable: 1, value: 1})
	weigh(r, "where it came to something", 1, 1, 1)
	r.cost = 5
	r.visit(task{variable: 1, value: 0})
	weigh(r, "where it came to nothing", 2, 1, 2)
	ok := r.Undo(0)
	costs, _ := table.New([]int{2, 2, 2}, 99, 0)
	j, e := r.Add([]int{0, 1, 2}, costs)
	r.next()
	weigh(r, "with one more", 2, 1, 2, 1)
	if ok != api.OK || e != api.OK || j != 3 {
		t.Errorf("errors %d, %d, %d", ok, e, j)
	}
}

// Only values with which all costs as much as the best go, and none of who is gone.
func TestCut(t *testing.T) {
	r := begin(made(t, "t 2 4 2 99, 4 4, 1 0 0 3, 1 5, 2 6, 3 7, 1 1 0 3, 1 5, 2 6, 3 7"), Options{Degree: -1})
	r.SetZero(4)
	r.cost = 10
	if e := r.Remove(state.Elim{Var: 1, Best: []int{0}}); e != api.OK {
		t.Fatalf("error %d", e)
	}
	if !r.cut() || r.cut() {
		t.Error("what is cut once isn't there any more")
	}
	if a, b := slices.Collect(r.Dom(0).Values()), r.Dom(1).Len(); !slices.Equal(a, []int{0, 1}) || b != 4 {
		t.Errorf("left are %v, of the one that is gone %d", a, b)
	}
}

// Functions that no more than one variable of has a choice go, and what they cost
// stays, the top too.
func TestSpend(t *testing.T) {
	r := begin(made(t, "t 4 2 4 9, 1 2 1 2, 2 0 1 0 2, 0 0 9, 0 1 2, 3 0 1 3 0 1, 0 1 1 5, 2 0 2 1 0, 3 0 1 2 0 1, 0 1 0 4"), Options{Degree: -1})
	look := func() (vals []int64) {
		for i := range 4 {
			c, _ := r.Val([]int{0, i / 2, 0, i % 2})
			vals = append(vals, c)
		}
		return vals
	}
	before := look()
	moved, after := r.spend(), look()
	var live [][]int
	for j := range r.Funs() {
		if r.Live(j) {
			live = append(live, r.Scope(j))
		}
	}
	if want := [][]int{{0, 1, 3}}; !moved || !slices.Equal(before, after) || fmt.Sprint(live) != fmt.Sprint(want) {
		t.Errorf("%v: %v, then %v: live are %v", moved, before, after, live)
	}
	if r.spend() {
		t.Error("there is nothing to move any more")
	}
	for i, want := range []int64{1, 9, 0, 0} {
		if c, _ := r.Unary(i, 0); c != want {
			t.Errorf("of %d the value 0 costs %d, not %d", i, c, want)
		}
	}
}

func TestTake(t *testing.T) {
	l := []int{4, 5, 6}
	if x, y := take(&l), take(&l); x != 6 || y != 5 || !slices.Equal(l, []int{4}) {
		t.Errorf("%d, %d, then %v", x, y, l)
	}
	words := []string{"only"}
	if x := take(&words); x != "only" || len(words) != 0 {
		t.Errorf("%q, then %v", x, words)
	}
	tasks := []task{whole, {variable: 2}}
	if x, y := take(&tasks), take(&tasks); x == whole || y != whole {
		t.Errorf("%v, %v", x, y)
	}
}
